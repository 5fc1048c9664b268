import PyProof.Rows.All
import Wide.All
import OpenK.AllK
import Wide.FinOn
import Lean
import PyProof.EqAt
import PyProof.EqKinds
import PyProof.TupleCall
import PySem.Challenge.RW_bundlehouse_k63_a_walk_of_packs
set_option Elab.async false
set_option linter.all false
set_option maxRecDepth 100000
namespace HD
open PySem PySem.W
noncomputable abbrev cutTo (p : Program) (ks : List Nat) : Program :=
  { p with main := { p.main with body := ks.filterMap fun i => p.main.body[i]? } }
noncomputable abbrev en (P : Params) (x : Str) (t : Tok) (v : Value) : DictEntry := ⟨PyData.keyHash P x, .str x t, v⟩
noncomputable abbrev tp (p : Program) (i : Nat) : Stmt := p.main.body.getD i (.Pass ⟨0, 0, 0, 0⟩)
noncomputable def inC (s : Stmt) (i : Nat) : Stmt := match s with
  | .ClassDef _ _ _ b _ _ _ _ _ _ _ => b.getD i (.Pass ⟨0, 0, 0, 0⟩)
  | _ => .Pass ⟨0, 0, 0, 0⟩
noncomputable def dA (s : Stmt) : Arguments := match s with
  | .FunctionDef _ a _ _ _ _ _ _ _ _ => a
  | _ => ⟨[], [], none, [], [], none, []⟩
noncomputable def dB (s : Stmt) : List Stmt := match s with
  | .FunctionDef _ _ b _ _ _ _ _ _ _ => b
  | _ => []
noncomputable def dS (s : Stmt) : Scope := match s with
  | .FunctionDef _ _ _ _ _ _ c _ _ _ => c
  | _ => default
theorem left_ofL {p q : Program} {lo : List Str} {Xt : Shared → Bool} {K : Params → Frag} {as : List Addr} (n : Nat) {e : ∀ P, as = (K P).map (·.1)} {N : Nat}
    (h1 : ∀ w, ((openEnds treeTable p w N).map fun s => openSeen q lo (importedModules p.main.body) Xt true s) = some (openGood q lo))
    (h6 : ∀ w, ((openEnds treeTable p w N).map fun s => (as.take n).map s.heap.get?) = some (((K w.params).take n).map fun p => some p.2))
    (h7 : ∀ w, ((openEnds treeTable p w N).map fun s => (as.drop n).map s.heap.get?) = some (((K w.params).drop n).map fun p => some p.2)) : LeftO p q lo Xt (kHook K as e).obs (kHook K as e).val N := by
  intro w
  have a1 := h1 w
  have a6 := h6 w
  have a7 := h7 w
  generalize openEnds treeTable p w N = r at a1 a6 a7 ⊢
  cases r with
  | none => cases a6
  | some s =>
    have b1 : openSeen q lo (importedModules p.main.body) Xt true s = openGood q lo := Option.some.inj a1
    have b6 : (as.take n).map s.heap.get? = ((K w.params).take n).map fun p => some p.2 := Option.some.inj a6
    have b7 : (as.drop n).map s.heap.get? = ((K w.params).drop n).map fun p => some p.2 := Option.some.inj a7
    have b8 : as.map s.heap.get? = (K w.params).map fun p => some p.2 := by rw [← List.take_append_drop n as, List.map_append, b6, b7, ← List.map_append, List.take_append_drop]
    show some (openSeen q lo (importedModules p.main.body) Xt true s, as.map s.heap.get?) = some (openGood q lo, (K w.params).map fun p => some p.2)
    rw [b1, b8]
theorem head_of {l : OpenLaw} {q : Program} {lo : List Str} {K : Params → Frag} {as : List Addr} {N : Nat} {d : DefRec} {kwd : List (Str × Expr)}
    (e : ∀ P, as = (K P).map (·.1)) (said : l.wellSaid = true)
    (hl : LeftO l.row.prog q lo (fun s => xlAt q [] s && recOk (RowW.records l.row.toRowW) s) (kHook K as e).obs (kHook K as e).val N)
    (h1 : defOf q l.row.name = some (d, kwd)) (h2 : l.row.prog.theDef l.row.name = some (d.params, d.body, d.scope))
    (h3 : kwWritten? d.params.kwonlyargs d.params.kw_defaults = some kwd) (h4 : (!l.row.writes || l.row.records.isEmpty) = true)
    (h5 : (chainsOk q && opensWell l.row.prog && (frees l.row.toRowW && l.row.within.isEmpty)) = true)
    (h6 : l.row.prog.bare) (h7 : l.row.toRowW.promised)
    (go : WalkO q lo (XL q []) (kHook K as e).says l.row.toRowW d kwd fun f vs => PySem.call f vs) : l.Holds := by
  refine holds_law said fun sd => ?_
  refine holds_open (XP := XL q []) (YP := (kHook K as e).says) hl (kHook K as e).of (kHook K as e).keeps ?_ XL.keeps h1 h2 h3 ?_ h4 sd h5 h6 h7 go
  · intro s x
    exact xl_of s (Bool.and_eq_true_iff.mp x).1
  · intro s x
    exact recFacts_of (Bool.and_eq_true_iff.mp x).2
end HD
set_option Elab.async false
set_option linter.all false
set_option maxRecDepth 100000
namespace K63
open PySem PySem.W
theorem len1 {α : Type} {us : List α} (h : us.length = 1) : ∃ a, us = [a] := by
  match us, h with
  | [a], _ => exact ⟨a, rfl⟩
theorem len2 {α : Type} {us : List α} (h : us.length = 2) : ∃ a b, us = [a, b] := by
  match us, h with
  | [a, b], _ => exact ⟨a, b, rfl⟩
theorem len3 {α : Type} {us : List α} (h : us.length = 3) : ∃ a b c, us = [a, b, c] := by
  match us, h with
  | [a, b, c], _ => exact ⟨a, b, c, rfl⟩
theorem len4 {α : Type} {us : List α} (h : us.length = 4) : ∃ a b c d, us = [a, b, c, d] := by
  match us, h with
  | [a, b, c, d], _ => exact ⟨a, b, c, d, rfl⟩
set_option maxHeartbeats 0
noncomputable def heapK (P : Params) : PySem.W.Frag :=
  (nat_lit 2, { cls := Value.none, data := Data.dict #[] }) ::
  (nat_lit 3, { cls := Value.type "dict", data := Data.dict #[HD.en P "__name__" 165 (Value.str ("law_bundlehouse_k63_a_walk_of_packs") 348), HD.en P "__doc__" 166 (Value.none), HD.en P "__package__" 167 (Value.none), HD.en P "__loader__" 168 (Value.builtin "__main__.__loader__#opaque"), HD.en P "__spec__" 169 (Value.none), HD.en P "__annotations__" 170 (Value.ref 6), HD.en P "__builtins__" 171 (Value.ref 4), HD.en P "__file__" 173 (Value.str ("/claim/cut.py") 172), HD.en P "__cached__" 174 (Value.none), HD.en P "_wall" 193 (Value.ref 21), HD.en P "spread" 206 (Value.ref 28), HD.en P "Walk" 270 (Value.ref 73), HD.en P "PacksWalk" 328 (Value.ref 116), HD.en P "blocks_in" 341 (Value.ref 125), HD.en P "next_parts" 347 (Value.ref 130), HD.en P "_law_cell_at" 357 (Value.ref 137), HD.en P "_law_stream" 368 (Value.ref 144), HD.en P "_law_names" 374 (Value.ref 149), HD.en P "_law_sum" 387 (Value.ref 156), HD.en P "_law_row" 399 (Value.ref 163), HD.en P "_law_blocks" 405 (Value.ref 168), HD.en P "_law_there" 418 (Value.ref 175), HD.en P "_law_roots" 424 (Value.ref 180), HD.en P "_law_made" 430 (Value.ref 185), HD.en P "_law_rows" 444 (Value.ref 192), HD.en P "_law_firsts" 453 (Value.ref 199), HD.en P "_law_ahead" 467 (Value.ref 206), HD.en P "_law_right" 483 (Value.ref 213), HD.en P "law" 500 (Value.ref 220)] 29 }) ::
  (nat_lit 15, { cls := Value.type "tuple", data := Data.seq #[] }) ::
  (nat_lit 17, { cls := Value.type "tuple", data := Data.seq #[Value.str ("k") 190] }) ::
  (nat_lit 18, { cls := Value.type "tuple", data := Data.seq #[] }) ::
  (nat_lit 20, { cls := Value.type "code", data := Data.fields #[Value.str ("_wall") 187, Value.str ("_wall") 188, Value.str ("/claim/cut.py") 189, Value.int 1 0, Value.int 1 0, Value.int 0 0, Value.int 0 0, Value.int 3 0, Value.ref 15, Value.bool true, Value.int 181 0, Value.ref 16, Value.none, Value.ref 17, Value.ref 18, Value.ref 19, Value.int 191 0, Value.int 1 0, Value.str ("/claim/cut.py") 192] }) ::
  (nat_lit 22, { cls := Value.type "tuple", data := Data.seq #[] }) ::
  (nat_lit 24, { cls := Value.type "tuple", data := Data.seq #[Value.str ("onward") 199, Value.str ("some") 200, Value.str ("found") 201, Value.str ("waiting") 202, Value.str ("part") 203] }) ::
  (nat_lit 25, { cls := Value.type "tuple", data := Data.seq #[] }) ::
  (nat_lit 27, { cls := Value.type "code", data := Data.fields #[Value.str ("spread") 196, Value.str ("spread") 197, Value.str ("/claim/cut.py") 198, Value.int 5 0, Value.int 2 0, Value.int 0 0, Value.int 0 0, Value.int 3 0, Value.ref 22, Value.bool true, Value.int 181 0, Value.ref 23, Value.none, Value.ref 24, Value.ref 25, Value.ref 26, Value.int 204 0, Value.int 5 0, Value.str ("/claim/cut.py") 205] }) ::
  (nat_lit 28, ⟨Value.type "function", none, .func (PySem.W.fnOf "spread" "spread" (HD.dA (HD.tp PySem.Challenge.pw_bundlehouse_k63_a_walk_of_packs 2)) (HD.dB (HD.tp PySem.Challenge.pw_bundlehouse_k63_a_walk_of_packs 2)) (HD.dS (HD.tp PySem.Challenge.pw_bundlehouse_k63_a_walk_of_packs 2)) (Value.none) (Value.none) (Value.none) (Value.str ("bundlehouse.knots") 194) (none) (Value.ref 27) (Value.none)), #[]⟩) ::
  (nat_lit 36, { cls := Value.type "tuple", data := Data.seq #[] }) ::
  (nat_lit 38, { cls := Value.type "tuple", data := Data.seq #[Value.str ("self") 224, Value.str ("part") 225] }) ::
  (nat_lit 39, { cls := Value.type "tuple", data := Data.seq #[] }) ::
  (nat_lit 41, { cls := Value.type "code", data := Data.fields #[Value.str ("rows_of") 221, Value.str ("Walk.rows_of") 222, Value.str ("/claim/cut.py") 223, Value.int 17 0, Value.int 2 0, Value.int 0 0, Value.int 0 0, Value.int 3 0, Value.ref 36, Value.bool true, Value.int 181 0, Value.ref 37, Value.none, Value.ref 38, Value.ref 39, Value.ref 40, Value.int 226 0, Value.int 17 0, Value.str ("/claim/cut.py") 227] }) ::
  (nat_lit 43, { cls := Value.type "tuple", data := Data.seq #[] }) ::
  (nat_lit 45, { cls := Value.type "tuple", data := Data.seq #[Value.str ("self") 232, Value.str ("part") 233, Value.str ("name") 234] }) ::
  (nat_lit 46, { cls := Value.type "tuple", data := Data.seq #[] }) ::
  (nat_lit 48, { cls := Value.type "code", data := Data.fields #[Value.str ("key_of") 229, Value.str ("Walk.key_of") 230, Value.str ("/claim/cut.py") 231, Value.int 20 0, Value.int 3 0, Value.int 0 0, Value.int 0 0, Value.int 3 0, Value.ref 43, Value.bool true, Value.int 181 0, Value.ref 44, Value.none, Value.ref 45, Value.ref 46, Value.ref 47, Value.int 235 0, Value.int 20 0, Value.str ("/claim/cut.py") 236] }) ::
  (nat_lit 49, ⟨Value.type "function", none, .func (PySem.W.fnOf "key_of" "Walk.key_of" (HD.dA (HD.inC (HD.tp PySem.Challenge.pw_bundlehouse_k63_a_walk_of_packs 4) 1)) (HD.dB (HD.inC (HD.tp PySem.Challenge.pw_bundlehouse_k63_a_walk_of_packs 4) 1)) (HD.dS (HD.inC (HD.tp PySem.Challenge.pw_bundlehouse_k63_a_walk_of_packs 4) 1)) (Value.none) (Value.none) (Value.none) (Value.str ("bundlehouse.run") 207) (none) (Value.ref 48) (Value.none)), #[]⟩) ::
  (nat_lit 50, { cls := Value.type "tuple", data := Data.seq #[] }) ::
  (nat_lit 52, { cls := Value.type "tuple", data := Data.seq #[Value.str ("self") 241, Value.str ("part") 242] }) ::
  (nat_lit 53, { cls := Value.type "tuple", data := Data.seq #[] }) ::
  (nat_lit 55, { cls := Value.type "code", data := Data.fields #[Value.str ("loads_of") 238, Value.str ("Walk.loads_of") 239, Value.str ("/claim/cut.py") 240, Value.int 23 0, Value.int 2 0, Value.int 0 0, Value.int 0 0, Value.int 3 0, Value.ref 50, Value.bool true, Value.int 181 0, Value.ref 51, Value.none, Value.ref 52, Value.ref 53, Value.ref 54, Value.int 243 0, Value.int 23 0, Value.str ("/claim/cut.py") 244] }) ::
  (nat_lit 57, { cls := Value.type "tuple", data := Data.seq #[] }) ::
  (nat_lit 59, { cls := Value.type "tuple", data := Data.seq #[Value.str ("self") 249, Value.str ("root") 250] }) ::
  (nat_lit 60, { cls := Value.type "tuple", data := Data.seq #[] }) ::
  (nat_lit 62, { cls := Value.type "code", data := Data.fields #[Value.str ("ahead_of") 246, Value.str ("Walk.ahead_of") 247, Value.str ("/claim/cut.py") 248, Value.int 26 0, Value.int 2 0, Value.int 0 0, Value.int 0 0, Value.int 3 0, Value.ref 57, Value.bool true, Value.int 181 0, Value.ref 58, Value.none, Value.ref 59, Value.ref 60, Value.ref 61, Value.int 251 0, Value.int 26 0, Value.str ("/claim/cut.py") 252] }) ::
  (nat_lit 64, { cls := Value.type "tuple", data := Data.seq #[] }) ::
  (nat_lit 66, { cls := Value.type "tuple", data := Data.seq #[Value.str ("self") 257, Value.str ("root") 258, Value.str ("numbers") 259] }) ::
  (nat_lit 67, { cls := Value.type "tuple", data := Data.seq #[] }) ::
  (nat_lit 69, { cls := Value.type "code", data := Data.fields #[Value.str ("go") 254, Value.str ("Walk.go") 255, Value.str ("/claim/cut.py") 256, Value.int 29 0, Value.int 3 0, Value.int 0 0, Value.int 0 0, Value.int 3 0, Value.ref 64, Value.bool true, Value.int 181 0, Value.ref 65, Value.none, Value.ref 66, Value.ref 67, Value.ref 68, Value.int 260 0, Value.int 29 0, Value.str ("/claim/cut.py") 261] }) ::
  (nat_lit 71, { cls := Value.type "tuple", data := Data.seq #[] }) ::
  (nat_lit 72, { cls := Value.type "dict", data := Data.dict #[HD.en P "__module__" 216 (Value.str ("bundlehouse.run") 207), HD.en P "__firstlineno__" 220 (Value.int 15 219), HD.en P "rows_of" 228 (Value.ref 42), HD.en P "key_of" 237 (Value.ref 49), HD.en P "loads_of" 245 (Value.ref 56), HD.en P "ahead_of" 253 (Value.ref 63), HD.en P "go" 262 (Value.ref 70), HD.en P "__static_attributes__" 263 (Value.ref 71), HD.en P "__dict__" 265 (Value.ref 74), HD.en P "__weakref__" 267 (Value.ref 75), HD.en P "__doc__" 268 (Value.none)] 4 }) ::
  (nat_lit 73, { cls := Value.type "type", data := Data.cls { name := "Walk", bases := [Value.type "object"], mro := [Value.ref 73, Value.type "object"], ns := 72, qualname := "Walk", subclasses := [Value.ref 116] }, slots := #[none, none, some (Value.str ("Walk") 209), some (Value.str ("Walk") 217), some (Value.builtin "object.__new__"), some (Value.bool true)] }) ::
  (nat_lit 74, { cls := Value.type "getset_descriptor", data := Data.fields #[Value.str ("__dict__") 264, Value.ref 73, Value.builtin "function.__dict__", Value.builtin "function.__dict__#set"] }) ::
  (nat_lit 75, { cls := Value.type "getset_descriptor", data := Data.fields #[Value.str ("__weakref__") 266, Value.ref 73, Value.builtin "ExceptionGroup.__weakref__", Value.none] }) ::
  (nat_lit 78, { cls := Value.type "tuple", data := Data.seq #[Value.ref 73] }) ::
  (nat_lit 85, { cls := Value.type "tuple", data := Data.seq #[Value.bool false] }) ::
  (nat_lit 86, { cls := Value.type "tuple", data := Data.seq #[] }) ::
  (nat_lit 88, { cls := Value.type "tuple", data := Data.seq #[Value.str ("self") 288, Value.str ("bundle") 289, Value.str ("ahead") 290] }) ::
  (nat_lit 89, { cls := Value.type "tuple", data := Data.seq #[] }) ::
  (nat_lit 91, { cls := Value.type "code", data := Data.fields #[Value.str ("__init__") 285, Value.str ("PacksWalk.__init__") 286, Value.str ("/claim/cut.py") 287, Value.int 34 0, Value.int 3 0, Value.int 0 0, Value.int 0 0, Value.int 3 0, Value.ref 86, Value.bool true, Value.int 181 0, Value.ref 87, Value.none, Value.ref 88, Value.ref 89, Value.ref 90, Value.int 291 0, Value.int 34 0, Value.str ("/claim/cut.py") 292] }) ::
  (nat_lit 92, ⟨Value.type "function", none, .func (PySem.W.fnOf "__init__" "PacksWalk.__init__" (HD.dA (HD.inC (HD.tp PySem.Challenge.pw_bundlehouse_k63_a_walk_of_packs 6) 0)) (HD.dB (HD.inC (HD.tp PySem.Challenge.pw_bundlehouse_k63_a_walk_of_packs 6) 0)) (HD.dS (HD.inC (HD.tp PySem.Challenge.pw_bundlehouse_k63_a_walk_of_packs 6) 0)) (Value.ref 85) (Value.none) (Value.none) (Value.str ("bundlehouse.play") 271) (none) (Value.ref 91) (Value.none)), #[]⟩) ::
  (nat_lit 93, { cls := Value.type "tuple", data := Data.seq #[] }) ::
  (nat_lit 95, { cls := Value.type "tuple", data := Data.seq #[Value.str ("self") 297, Value.str ("part") 298] }) ::
  (nat_lit 96, { cls := Value.type "tuple", data := Data.seq #[] }) ::
  (nat_lit 98, { cls := Value.type "code", data := Data.fields #[Value.str ("rows_of") 294, Value.str ("PacksWalk.rows_of") 295, Value.str ("/claim/cut.py") 296, Value.int 39 0, Value.int 2 0, Value.int 0 0, Value.int 0 0, Value.int 3 0, Value.ref 93, Value.bool true, Value.int 181 0, Value.ref 94, Value.none, Value.ref 95, Value.ref 96, Value.ref 97, Value.int 299 0, Value.int 39 0, Value.str ("/claim/cut.py") 300] }) ::
  (nat_lit 99, ⟨Value.type "function", none, .func (PySem.W.fnOf "rows_of" "PacksWalk.rows_of" (HD.dA (HD.inC (HD.tp PySem.Challenge.pw_bundlehouse_k63_a_walk_of_packs 6) 1)) (HD.dB (HD.inC (HD.tp PySem.Challenge.pw_bundlehouse_k63_a_walk_of_packs 6) 1)) (HD.dS (HD.inC (HD.tp PySem.Challenge.pw_bundlehouse_k63_a_walk_of_packs 6) 1)) (Value.none) (Value.none) (Value.none) (Value.str ("bundlehouse.play") 271) (none) (Value.ref 98) (Value.none)), #[]⟩) ::
  (nat_lit 100, { cls := Value.type "tuple", data := Data.seq #[] }) ::
  (nat_lit 102, { cls := Value.type "tuple", data := Data.seq #[Value.str ("self") 305, Value.str ("part") 306] }) ::
  (nat_lit 103, { cls := Value.type "tuple", data := Data.seq #[] }) ::
  (nat_lit 105, { cls := Value.type "code", data := Data.fields #[Value.str ("loads_of") 302, Value.str ("PacksWalk.loads_of") 303, Value.str ("/claim/cut.py") 304, Value.int 42 0, Value.int 2 0, Value.int 0 0, Value.int 0 0, Value.int 3 0, Value.ref 100, Value.bool true, Value.int 181 0, Value.ref 101, Value.none, Value.ref 102, Value.ref 103, Value.ref 104, Value.int 307 0, Value.int 42 0, Value.str ("/claim/cut.py") 308] }) ::
  (nat_lit 106, ⟨Value.type "function", none, .func (PySem.W.fnOf "loads_of" "PacksWalk.loads_of" (HD.dA (HD.inC (HD.tp PySem.Challenge.pw_bundlehouse_k63_a_walk_of_packs 6) 2)) (HD.dB (HD.inC (HD.tp PySem.Challenge.pw_bundlehouse_k63_a_walk_of_packs 6) 2)) (HD.dS (HD.inC (HD.tp PySem.Challenge.pw_bundlehouse_k63_a_walk_of_packs 6) 2)) (Value.none) (Value.none) (Value.none) (Value.str ("bundlehouse.play") 271) (none) (Value.ref 105) (Value.none)), #[]⟩) ::
  (nat_lit 107, { cls := Value.type "tuple", data := Data.seq #[] }) ::
  (nat_lit 109, { cls := Value.type "tuple", data := Data.seq #[Value.str ("self") 313, Value.str ("root") 314, Value.str ("come") 315, Value.str ("found") 316, Value.str ("other") 317, Value.str ("packs") 318] }) ::
  (nat_lit 110, { cls := Value.type "tuple", data := Data.seq #[] }) ::
  (nat_lit 112, { cls := Value.type "code", data := Data.fields #[Value.str ("ahead_of") 310, Value.str ("PacksWalk.ahead_of") 311, Value.str ("/claim/cut.py") 312, Value.int 45 0, Value.int 2 0, Value.int 0 0, Value.int 0 0, Value.int 3 0, Value.ref 107, Value.bool true, Value.int 181 0, Value.ref 108, Value.none, Value.ref 109, Value.ref 110, Value.ref 111, Value.int 319 0, Value.int 45 0, Value.str ("/claim/cut.py") 320] }) ::
  (nat_lit 113, ⟨Value.type "function", none, .func (PySem.W.fnOf "ahead_of" "PacksWalk.ahead_of" (HD.dA (HD.inC (HD.tp PySem.Challenge.pw_bundlehouse_k63_a_walk_of_packs 6) 3)) (HD.dB (HD.inC (HD.tp PySem.Challenge.pw_bundlehouse_k63_a_walk_of_packs 6) 3)) (HD.dS (HD.inC (HD.tp PySem.Challenge.pw_bundlehouse_k63_a_walk_of_packs 6) 3)) (Value.none) (Value.none) (Value.none) (Value.str ("bundlehouse.play") 271) (none) (Value.ref 112) (Value.none)), #[]⟩) ::
  (nat_lit 114, { cls := Value.type "tuple", data := Data.seq #[Value.str ("ahead") 322, Value.str ("blocks") 323, Value.str ("loads") 324] }) ::
  (nat_lit 115, { cls := Value.type "dict", data := Data.dict #[HD.en P "__module__" 280 (Value.str ("bundlehouse.play") 271), HD.en P "__firstlineno__" 284 (Value.int 32 283), HD.en P "__init__" 293 (Value.ref 92), HD.en P "rows_of" 301 (Value.ref 99), HD.en P "loads_of" 309 (Value.ref 106), HD.en P "ahead_of" 321 (Value.ref 113), HD.en P "__static_attributes__" 325 (Value.ref 114), HD.en P "__doc__" 326 (Value.none)] 2 }) ::
  (nat_lit 116, { cls := Value.type "type", data := Data.cls { name := "PacksWalk", bases := [Value.ref 73], mro := [Value.ref 116, Value.ref 73, Value.type "object"], ns := 115, qualname := "PacksWalk" }, slots := #[some (Value.ref 78), none, some (Value.str ("PacksWalk") 273), some (Value.str ("PacksWalk") 281), some (Value.builtin "object.__new__"), some (Value.bool true)] }) ::
  (nat_lit 119, { cls := Value.type "tuple", data := Data.seq #[] }) ::
  (nat_lit 121, { cls := Value.type "tuple", data := Data.seq #[Value.str ("packs") 332, Value.str ("found") 333, Value.str ("place") 334, Value.str ("rows") 335, Value.str ("part") 336, Value.str ("number") 337, Value.str ("row") 338] }) ::
  (nat_lit 122, { cls := Value.type "tuple", data := Data.seq #[] }) ::
  (nat_lit 124, { cls := Value.type "code", data := Data.fields #[Value.str ("blocks_in") 329, Value.str ("blocks_in") 330, Value.str ("/claim/cut.py") 331, Value.int 54 0, Value.int 1 0, Value.int 0 0, Value.int 0 0, Value.int 3 0, Value.ref 119, Value.bool true, Value.int 181 0, Value.ref 120, Value.none, Value.ref 121, Value.ref 122, Value.ref 123, Value.int 339 0, Value.int 54 0, Value.str ("/claim/cut.py") 340] }) ::
  (nat_lit 125, ⟨Value.type "function", none, .func (PySem.W.fnOf "blocks_in" "blocks_in" (HD.dA (HD.tp PySem.Challenge.pw_bundlehouse_k63_a_walk_of_packs 7)) (HD.dB (HD.tp PySem.Challenge.pw_bundlehouse_k63_a_walk_of_packs 7)) (HD.dS (HD.tp PySem.Challenge.pw_bundlehouse_k63_a_walk_of_packs 7)) (Value.none) (Value.none) (Value.none) (Value.str ("bundlehouse.play") 271) (none) (Value.ref 124) (Value.none)), #[]⟩) ::
  (nat_lit 126, { cls := Value.type "tuple", data := Data.seq #[] }) ::
  (nat_lit 129, { cls := Value.type "code", data := Data.fields #[Value.str ("next_parts") 342, Value.str ("next_parts") 343, Value.str ("/claim/cut.py") 344, Value.int 65 0, Value.int 1 0, Value.int 0 0, Value.int 0 0, Value.int 3 0, Value.ref 126, Value.bool true, Value.int 181 0, Value.ref 127, Value.none, Value.none, Value.none, Value.ref 128, Value.int 345 0, Value.int 65 0, Value.str ("/claim/cut.py") 346] }) ::
  (nat_lit 130, ⟨Value.type "function", none, .func (PySem.W.fnOf "next_parts" "next_parts" (HD.dA (HD.tp PySem.Challenge.pw_bundlehouse_k63_a_walk_of_packs 8)) (HD.dB (HD.tp PySem.Challenge.pw_bundlehouse_k63_a_walk_of_packs 8)) (HD.dS (HD.tp PySem.Challenge.pw_bundlehouse_k63_a_walk_of_packs 8)) (Value.none) (Value.none) (Value.none) (Value.str ("bundlehouse.play") 271) (none) (Value.ref 129) (Value.none)), #[]⟩) ::
  (nat_lit 131, { cls := Value.type "tuple", data := Data.seq #[] }) ::
  (nat_lit 133, { cls := Value.type "tuple", data := Data.seq #[Value.str ("_law_script") 353, Value.str ("_law_k") 354] }) ::
  (nat_lit 134, { cls := Value.type "tuple", data := Data.seq #[] }) ::
  (nat_lit 136, { cls := Value.type "code", data := Data.fields #[Value.str ("_law_cell_at") 350, Value.str ("_law_cell_at") 351, Value.str ("/claim/cut.py") 352, Value.int 71 0, Value.int 2 0, Value.int 0 0, Value.int 0 0, Value.int 3 0, Value.ref 131, Value.bool true, Value.int 181 0, Value.ref 132, Value.none, Value.ref 133, Value.ref 134, Value.ref 135, Value.int 355 0, Value.int 71 0, Value.str ("/claim/cut.py") 356] }) ::
  (nat_lit 137, ⟨Value.type "function", none, .func (PySem.W.fnOf "_law_cell_at" "_law_cell_at" (HD.dA (HD.tp PySem.Challenge.pw_bundlehouse_k63_a_walk_of_packs 10)) (HD.dB (HD.tp PySem.Challenge.pw_bundlehouse_k63_a_walk_of_packs 10)) (HD.dS (HD.tp PySem.Challenge.pw_bundlehouse_k63_a_walk_of_packs 10)) (Value.none) (Value.none) (Value.none) (Value.str ("law_bundlehouse_k63_a_walk_of_packs") 348) (none) (Value.ref 136) (Value.none)), #[]⟩) ::
  (nat_lit 138, { cls := Value.type "tuple", data := Data.seq #[] }) ::
  (nat_lit 140, { cls := Value.type "tuple", data := Data.seq #[Value.str ("_law_cell") 361, Value.str ("_law_many") 362, Value.str ("_law_found") 363, Value.str ("_law_number") 364, Value.str ("_law_k") 365] }) ::
  (nat_lit 141, { cls := Value.type "tuple", data := Data.seq #[] }) ::
  (nat_lit 143, { cls := Value.type "code", data := Data.fields #[Value.str ("_law_stream") 358, Value.str ("_law_stream") 359, Value.str ("/claim/cut.py") 360, Value.int 75 0, Value.int 2 0, Value.int 0 0, Value.int 0 0, Value.int 3 0, Value.ref 138, Value.bool true, Value.int 181 0, Value.ref 139, Value.none, Value.ref 140, Value.ref 141, Value.ref 142, Value.int 366 0, Value.int 75 0, Value.str ("/claim/cut.py") 367] }) ::
  (nat_lit 144, ⟨Value.type "function", none, .func (PySem.W.fnOf "_law_stream" "_law_stream" (HD.dA (HD.tp PySem.Challenge.pw_bundlehouse_k63_a_walk_of_packs 11)) (HD.dB (HD.tp PySem.Challenge.pw_bundlehouse_k63_a_walk_of_packs 11)) (HD.dS (HD.tp PySem.Challenge.pw_bundlehouse_k63_a_walk_of_packs 11)) (Value.none) (Value.none) (Value.none) (Value.str ("law_bundlehouse_k63_a_walk_of_packs") 348) (none) (Value.ref 143) (Value.none)), #[]⟩) ::
  (nat_lit 145, { cls := Value.type "tuple", data := Data.seq #[] }) ::
  (nat_lit 148, { cls := Value.type "code", data := Data.fields #[Value.str ("_law_names") 369, Value.str ("_law_names") 370, Value.str ("/claim/cut.py") 371, Value.int 82 0, Value.int 2 0, Value.int 0 0, Value.int 0 0, Value.int 3 0, Value.ref 145, Value.bool true, Value.int 181 0, Value.ref 146, Value.none, Value.none, Value.none, Value.ref 147, Value.int 372 0, Value.int 82 0, Value.str ("/claim/cut.py") 373] }) ::
  (nat_lit 149, ⟨Value.type "function", none, .func (PySem.W.fnOf "_law_names" "_law_names" (HD.dA (HD.tp PySem.Challenge.pw_bundlehouse_k63_a_walk_of_packs 12)) (HD.dB (HD.tp PySem.Challenge.pw_bundlehouse_k63_a_walk_of_packs 12)) (HD.dS (HD.tp PySem.Challenge.pw_bundlehouse_k63_a_walk_of_packs 12)) (Value.none) (Value.none) (Value.none) (Value.str ("law_bundlehouse_k63_a_walk_of_packs") 348) (none) (Value.ref 148) (Value.none)), #[]⟩) ::
  (nat_lit 150, { cls := Value.type "tuple", data := Data.seq #[] }) ::
  (nat_lit 152, { cls := Value.type "tuple", data := Data.seq #[Value.str ("_law_owns") 378, Value.str ("_law_numbers") 379, Value.str ("_law_terms") 380, Value.str ("_law_k") 381, Value.str ("_law_number") 382, Value.str ("_law_thing") 383, Value.str ("_law_sign") 384] }) ::
  (nat_lit 153, { cls := Value.type "tuple", data := Data.seq #[] }) ::
  (nat_lit 155, { cls := Value.type "code", data := Data.fields #[Value.str ("_law_sum") 375, Value.str ("_law_sum") 376, Value.str ("/claim/cut.py") 377, Value.int 91 0, Value.int 2 0, Value.int 0 0, Value.int 0 0, Value.int 3 0, Value.ref 150, Value.bool true, Value.int 181 0, Value.ref 151, Value.none, Value.ref 152, Value.ref 153, Value.ref 154, Value.int 385 0, Value.int 91 0, Value.str ("/claim/cut.py") 386] }) ::
  (nat_lit 156, ⟨Value.type "function", none, .func (PySem.W.fnOf "_law_sum" "_law_sum" (HD.dA (HD.tp PySem.Challenge.pw_bundlehouse_k63_a_walk_of_packs 13)) (HD.dB (HD.tp PySem.Challenge.pw_bundlehouse_k63_a_walk_of_packs 13)) (HD.dS (HD.tp PySem.Challenge.pw_bundlehouse_k63_a_walk_of_packs 13)) (Value.none) (Value.none) (Value.none) (Value.str ("law_bundlehouse_k63_a_walk_of_packs") 348) (none) (Value.ref 155) (Value.none)), #[]⟩) ::
  (nat_lit 157, { cls := Value.type "tuple", data := Data.seq #[] }) ::
  (nat_lit 159, { cls := Value.type "tuple", data := Data.seq #[Value.str ("_law_kind") 391, Value.str ("_law_numbers") 392, Value.str ("_law_other") 393, Value.str ("_law_owns") 394, Value.str ("_law_own") 395, Value.str ("_law_when") 396] }) ::
  (nat_lit 160, { cls := Value.type "tuple", data := Data.seq #[] }) ::
  (nat_lit 162, { cls := Value.type "code", data := Data.fields #[Value.str ("_law_row") 388, Value.str ("_law_row") 389, Value.str ("/claim/cut.py") 390, Value.int 103 0, Value.int 5 0, Value.int 0 0, Value.int 0 0, Value.int 3 0, Value.ref 157, Value.bool true, Value.int 181 0, Value.ref 158, Value.none, Value.ref 159, Value.ref 160, Value.ref 161, Value.int 397 0, Value.int 103 0, Value.str ("/claim/cut.py") 398] }) ::
  (nat_lit 163, ⟨Value.type "function", none, .func (PySem.W.fnOf "_law_row" "_law_row" (HD.dA (HD.tp PySem.Challenge.pw_bundlehouse_k63_a_walk_of_packs 14)) (HD.dB (HD.tp PySem.Challenge.pw_bundlehouse_k63_a_walk_of_packs 14)) (HD.dS (HD.tp PySem.Challenge.pw_bundlehouse_k63_a_walk_of_packs 14)) (Value.none) (Value.none) (Value.none) (Value.str ("law_bundlehouse_k63_a_walk_of_packs") 348) (none) (Value.ref 162) (Value.none)), #[]⟩) ::
  (nat_lit 164, { cls := Value.type "tuple", data := Data.seq #[] }) ::
  (nat_lit 167, { cls := Value.type "code", data := Data.fields #[Value.str ("_law_blocks") 400, Value.str ("_law_blocks") 401, Value.str ("/claim/cut.py") 402, Value.int 118 0, Value.int 2 0, Value.int 0 0, Value.int 0 0, Value.int 3 0, Value.ref 164, Value.bool true, Value.int 181 0, Value.ref 165, Value.none, Value.none, Value.none, Value.ref 166, Value.int 403 0, Value.int 118 0, Value.str ("/claim/cut.py") 404] }) ::
  (nat_lit 168, ⟨Value.type "function", none, .func (PySem.W.fnOf "_law_blocks" "_law_blocks" (HD.dA (HD.tp PySem.Challenge.pw_bundlehouse_k63_a_walk_of_packs 15)) (HD.dB (HD.tp PySem.Challenge.pw_bundlehouse_k63_a_walk_of_packs 15)) (HD.dS (HD.tp PySem.Challenge.pw_bundlehouse_k63_a_walk_of_packs 15)) (Value.none) (Value.none) (Value.none) (Value.str ("law_bundlehouse_k63_a_walk_of_packs") 348) (none) (Value.ref 167) (Value.none)), #[]⟩) ::
  (nat_lit 169, { cls := Value.type "tuple", data := Data.seq #[] }) ::
  (nat_lit 171, { cls := Value.type "tuple", data := Data.seq #[Value.str ("_law_names_here") 409, Value.str ("_law_blocks_here") 410, Value.str ("_law_root") 411, Value.str ("_law_words") 412, Value.str ("_law_there_here") 413, Value.str ("_law_at") 414, Value.str ("_law_row_here") 415] }) ::
  (nat_lit 172, { cls := Value.type "tuple", data := Data.seq #[] }) ::
  (nat_lit 174, { cls := Value.type "code", data := Data.fields #[Value.str ("_law_there") 406, Value.str ("_law_there") 407, Value.str ("/claim/cut.py") 408, Value.int 139 0, Value.int 4 0, Value.int 0 0, Value.int 0 0, Value.int 3 0, Value.ref 169, Value.bool true, Value.int 181 0, Value.ref 170, Value.none, Value.ref 171, Value.ref 172, Value.ref 173, Value.int 416 0, Value.int 139 0, Value.str ("/claim/cut.py") 417] }) ::
  (nat_lit 175, ⟨Value.type "function", none, .func (PySem.W.fnOf "_law_there" "_law_there" (HD.dA (HD.tp PySem.Challenge.pw_bundlehouse_k63_a_walk_of_packs 16)) (HD.dB (HD.tp PySem.Challenge.pw_bundlehouse_k63_a_walk_of_packs 16)) (HD.dS (HD.tp PySem.Challenge.pw_bundlehouse_k63_a_walk_of_packs 16)) (Value.none) (Value.none) (Value.none) (Value.str ("law_bundlehouse_k63_a_walk_of_packs") 348) (none) (Value.ref 174) (Value.none)), #[]⟩) ::
  (nat_lit 176, { cls := Value.type "tuple", data := Data.seq #[] }) ::
  (nat_lit 179, { cls := Value.type "code", data := Data.fields #[Value.str ("_law_roots") 419, Value.str ("_law_roots") 420, Value.str ("/claim/cut.py") 421, Value.int 148 0, Value.int 3 0, Value.int 0 0, Value.int 0 0, Value.int 3 0, Value.ref 176, Value.bool true, Value.int 181 0, Value.ref 177, Value.none, Value.none, Value.none, Value.ref 178, Value.int 422 0, Value.int 148 0, Value.str ("/claim/cut.py") 423] }) ::
  (nat_lit 180, ⟨Value.type "function", none, .func (PySem.W.fnOf "_law_roots" "_law_roots" (HD.dA (HD.tp PySem.Challenge.pw_bundlehouse_k63_a_walk_of_packs 17)) (HD.dB (HD.tp PySem.Challenge.pw_bundlehouse_k63_a_walk_of_packs 17)) (HD.dS (HD.tp PySem.Challenge.pw_bundlehouse_k63_a_walk_of_packs 17)) (Value.none) (Value.none) (Value.none) (Value.str ("law_bundlehouse_k63_a_walk_of_packs") 348) (none) (Value.ref 179) (Value.none)), #[]⟩) ::
  (nat_lit 181, { cls := Value.type "tuple", data := Data.seq #[] }) ::
  (nat_lit 184, { cls := Value.type "code", data := Data.fields #[Value.str ("_law_made") 425, Value.str ("_law_made") 426, Value.str ("/claim/cut.py") 427, Value.int 162 0, Value.int 3 0, Value.int 0 0, Value.int 0 0, Value.int 3 0, Value.ref 181, Value.bool true, Value.int 181 0, Value.ref 182, Value.none, Value.none, Value.none, Value.ref 183, Value.int 428 0, Value.int 162 0, Value.str ("/claim/cut.py") 429] }) ::
  (nat_lit 185, ⟨Value.type "function", none, .func (PySem.W.fnOf "_law_made" "_law_made" (HD.dA (HD.tp PySem.Challenge.pw_bundlehouse_k63_a_walk_of_packs 18)) (HD.dB (HD.tp PySem.Challenge.pw_bundlehouse_k63_a_walk_of_packs 18)) (HD.dS (HD.tp PySem.Challenge.pw_bundlehouse_k63_a_walk_of_packs 18)) (Value.none) (Value.none) (Value.none) (Value.str ("law_bundlehouse_k63_a_walk_of_packs") 348) (none) (Value.ref 184) (Value.none)), #[]⟩) ::
  (nat_lit 186, { cls := Value.type "tuple", data := Data.seq #[] }) ::
  (nat_lit 188, { cls := Value.type "tuple", data := Data.seq #[Value.str ("_law_names_here") 434, Value.str ("_law_made_here") 435, Value.str ("_law_part") 436, Value.str ("_law_due") 437, Value.str ("_law_pack") 438, Value.str ("_law_inside") 439, Value.str ("_law_number") 440, Value.str ("_law_row_here") 441] }) ::
  (nat_lit 189, { cls := Value.type "tuple", data := Data.seq #[] }) ::
  (nat_lit 191, { cls := Value.type "code", data := Data.fields #[Value.str ("_law_rows") 431, Value.str ("_law_rows") 432, Value.str ("/claim/cut.py") 433, Value.int 177 0, Value.int 3 0, Value.int 0 0, Value.int 0 0, Value.int 3 0, Value.ref 186, Value.bool true, Value.int 181 0, Value.ref 187, Value.none, Value.ref 188, Value.ref 189, Value.ref 190, Value.int 442 0, Value.int 177 0, Value.str ("/claim/cut.py") 443] }) ::
  (nat_lit 192, ⟨Value.type "function", none, .func (PySem.W.fnOf "_law_rows" "_law_rows" (HD.dA (HD.tp PySem.Challenge.pw_bundlehouse_k63_a_walk_of_packs 19)) (HD.dB (HD.tp PySem.Challenge.pw_bundlehouse_k63_a_walk_of_packs 19)) (HD.dS (HD.tp PySem.Challenge.pw_bundlehouse_k63_a_walk_of_packs 19)) (Value.none) (Value.none) (Value.none) (Value.str ("law_bundlehouse_k63_a_walk_of_packs") 348) (none) (Value.ref 191) (Value.none)), #[]⟩) ::
  (nat_lit 193, { cls := Value.type "tuple", data := Data.seq #[] }) ::
  (nat_lit 195, { cls := Value.type "tuple", data := Data.seq #[Value.str ("_law_numbers") 448, Value.str ("_law_found") 449, Value.str ("_law_number") 450] }) ::
  (nat_lit 196, { cls := Value.type "tuple", data := Data.seq #[] }) ::
  (nat_lit 198, { cls := Value.type "code", data := Data.fields #[Value.str ("_law_firsts") 445, Value.str ("_law_firsts") 446, Value.str ("/claim/cut.py") 447, Value.int 188 0, Value.int 1 0, Value.int 0 0, Value.int 0 0, Value.int 3 0, Value.ref 193, Value.bool true, Value.int 181 0, Value.ref 194, Value.none, Value.ref 195, Value.ref 196, Value.ref 197, Value.int 451 0, Value.int 188 0, Value.str ("/claim/cut.py") 452] }) ::
  (nat_lit 199, ⟨Value.type "function", none, .func (PySem.W.fnOf "_law_firsts" "_law_firsts" (HD.dA (HD.tp PySem.Challenge.pw_bundlehouse_k63_a_walk_of_packs 20)) (HD.dB (HD.tp PySem.Challenge.pw_bundlehouse_k63_a_walk_of_packs 20)) (HD.dS (HD.tp PySem.Challenge.pw_bundlehouse_k63_a_walk_of_packs 20)) (Value.none) (Value.none) (Value.none) (Value.str ("law_bundlehouse_k63_a_walk_of_packs") 348) (none) (Value.ref 198) (Value.none)), #[]⟩) ::
  (nat_lit 200, { cls := Value.type "tuple", data := Data.seq #[] }) ::
  (nat_lit 202, { cls := Value.type "tuple", data := Data.seq #[Value.str ("_law_names_here") 457, Value.str ("_law_blocks_here") 458, Value.str ("_law_made_here") 459, Value.str ("_law_root") 460, Value.str ("_law_there_here") 461, Value.str ("_law_found") 462, Value.str ("_law_name") 463, Value.str ("_law_numbers") 464] }) ::
  (nat_lit 203, { cls := Value.type "tuple", data := Data.seq #[] }) ::
  (nat_lit 205, { cls := Value.type "code", data := Data.fields #[Value.str ("_law_ahead") 454, Value.str ("_law_ahead") 455, Value.str ("/claim/cut.py") 456, Value.int 194 0, Value.int 4 0, Value.int 0 0, Value.int 0 0, Value.int 3 0, Value.ref 200, Value.bool true, Value.int 181 0, Value.ref 201, Value.none, Value.ref 202, Value.ref 203, Value.ref 204, Value.int 465 0, Value.int 194 0, Value.str ("/claim/cut.py") 466] }) ::
  (nat_lit 206, ⟨Value.type "function", none, .func (PySem.W.fnOf "_law_ahead" "_law_ahead" (HD.dA (HD.tp PySem.Challenge.pw_bundlehouse_k63_a_walk_of_packs 21)) (HD.dB (HD.tp PySem.Challenge.pw_bundlehouse_k63_a_walk_of_packs 21)) (HD.dS (HD.tp PySem.Challenge.pw_bundlehouse_k63_a_walk_of_packs 21)) (Value.none) (Value.none) (Value.none) (Value.str ("law_bundlehouse_k63_a_walk_of_packs") 348) (none) (Value.ref 205) (Value.none)), #[]⟩) ::
  (nat_lit 207, { cls := Value.type "tuple", data := Data.seq #[] }) ::
  (nat_lit 209, { cls := Value.type "tuple", data := Data.seq #[Value.str ("_law_walk") 471, Value.str ("_law_names_here") 472, Value.str ("_law_blocks_here") 473, Value.str ("_law_made_here") 474, Value.str ("_law_ahead_here") 475, Value.str ("_law_wanted") 476, Value.str ("_law_name") 477, Value.str ("_law_numbers") 478, Value.str ("_law_rows_here") 479, Value.str ("_law_due") 480] }) ::
  (nat_lit 210, { cls := Value.type "tuple", data := Data.seq #[] }) ::
  (nat_lit 212, { cls := Value.type "code", data := Data.fields #[Value.str ("_law_right") 468, Value.str ("_law_right") 469, Value.str ("/claim/cut.py") 470, Value.int 201 0, Value.int 5 0, Value.int 0 0, Value.int 0 0, Value.int 3 0, Value.ref 207, Value.bool true, Value.int 181 0, Value.ref 208, Value.none, Value.ref 209, Value.ref 210, Value.ref 211, Value.int 481 0, Value.int 201 0, Value.str ("/claim/cut.py") 482] }) ::
  (nat_lit 213, ⟨Value.type "function", none, .func (PySem.W.fnOf "_law_right" "_law_right" (HD.dA (HD.tp PySem.Challenge.pw_bundlehouse_k63_a_walk_of_packs 22)) (HD.dB (HD.tp PySem.Challenge.pw_bundlehouse_k63_a_walk_of_packs 22)) (HD.dS (HD.tp PySem.Challenge.pw_bundlehouse_k63_a_walk_of_packs 22)) (Value.none) (Value.none) (Value.none) (Value.str ("law_bundlehouse_k63_a_walk_of_packs") 348) (none) (Value.ref 212) (Value.none)), #[]⟩) ::
  (nat_lit 214, { cls := Value.type "tuple", data := Data.seq #[] }) ::
  (nat_lit 216, { cls := Value.type "tuple", data := Data.seq #[Value.str ("_law_script") 487, Value.str ("_law_names_here") 488, Value.str ("_law_blocks_here") 489, Value.str ("_law_made_here") 490, Value.str ("_law_some") 491, Value.str ("_law_beside") 492, Value.str ("_law_other") 493, Value.str ("_law_ahead_here") 494, Value.str ("_law_walk") 495, Value.str ("_law_plain") 496, Value.str ("_law_second") 497] }) ::
  (nat_lit 217, { cls := Value.type "tuple", data := Data.seq #[] }) ::
  (nat_lit 219, { cls := Value.type "code", data := Data.fields #[Value.str ("law") 484, Value.str ("law") 485, Value.str ("/claim/cut.py") 486, Value.int 222 0, Value.int 1 0, Value.int 0 0, Value.int 0 0, Value.int 3 0, Value.ref 214, Value.bool true, Value.int 181 0, Value.ref 215, Value.none, Value.ref 216, Value.ref 217, Value.ref 218, Value.int 498 0, Value.int 222 0, Value.str ("/claim/cut.py") 499] }) ::
  (nat_lit 220, ⟨Value.type "function", none, .func (PySem.W.fnOf "law" "law" (HD.dA (HD.tp PySem.Challenge.pw_bundlehouse_k63_a_walk_of_packs 23)) (HD.dB (HD.tp PySem.Challenge.pw_bundlehouse_k63_a_walk_of_packs 23)) (HD.dS (HD.tp PySem.Challenge.pw_bundlehouse_k63_a_walk_of_packs 23)) (Value.none) (Value.none) (Value.none) (Value.str ("law_bundlehouse_k63_a_walk_of_packs") 348) (none) (Value.ref 219) (Value.none)), #[]⟩) :: []
noncomputable def heapA : List Addr := [nat_lit 2, nat_lit 3, nat_lit 15, nat_lit 17, nat_lit 18, nat_lit 20, nat_lit 22, nat_lit 24, nat_lit 25, nat_lit 27, nat_lit 28, nat_lit 36, nat_lit 38, nat_lit 39, nat_lit 41, nat_lit 43, nat_lit 45, nat_lit 46, nat_lit 48, nat_lit 49, nat_lit 50, nat_lit 52, nat_lit 53, nat_lit 55, nat_lit 57, nat_lit 59, nat_lit 60, nat_lit 62, nat_lit 64, nat_lit 66, nat_lit 67, nat_lit 69, nat_lit 71, nat_lit 72, nat_lit 73, nat_lit 74, nat_lit 75, nat_lit 78, nat_lit 85, nat_lit 86, nat_lit 88, nat_lit 89, nat_lit 91, nat_lit 92, nat_lit 93, nat_lit 95, nat_lit 96, nat_lit 98, nat_lit 99, nat_lit 100, nat_lit 102, nat_lit 103, nat_lit 105, nat_lit 106, nat_lit 107, nat_lit 109, nat_lit 110, nat_lit 112, nat_lit 113, nat_lit 114, nat_lit 115, nat_lit 116, nat_lit 119, nat_lit 121, nat_lit 122, nat_lit 124, nat_lit 125, nat_lit 126, nat_lit 129, nat_lit 130, nat_lit 131, nat_lit 133, nat_lit 134, nat_lit 136, nat_lit 137, nat_lit 138, nat_lit 140, nat_lit 141, nat_lit 143, nat_lit 144, nat_lit 145, nat_lit 148, nat_lit 149, nat_lit 150, nat_lit 152, nat_lit 153, nat_lit 155, nat_lit 156, nat_lit 157, nat_lit 159, nat_lit 160, nat_lit 162, nat_lit 163, nat_lit 164, nat_lit 167, nat_lit 168, nat_lit 169, nat_lit 171, nat_lit 172, nat_lit 174, nat_lit 175, nat_lit 176, nat_lit 179, nat_lit 180, nat_lit 181, nat_lit 184, nat_lit 185, nat_lit 186, nat_lit 188, nat_lit 189, nat_lit 191, nat_lit 192, nat_lit 193, nat_lit 195, nat_lit 196, nat_lit 198, nat_lit 199, nat_lit 200, nat_lit 202, nat_lit 203, nat_lit 205, nat_lit 206, nat_lit 207, nat_lit 209, nat_lit 210, nat_lit 212, nat_lit 213, nat_lit 214, nat_lit 216, nat_lit 217, nat_lit 219, nat_lit 220]
theorem heapE : ∀ P, heapA = (heapK P).map (·.1) := fun _ => by kernel_rfl
theorem said : PySem.Challenge.rw_bundlehouse_k63_a_walk_of_packs.wellSaid = true := by kernel_rfl
noncomputable abbrev qP : Program := (HD.cutTo PySem.Challenge.rw_bundlehouse_k63_a_walk_of_packs.prog [23])
noncomputable abbrev sE (w : World) := openEnds treeTable PySem.Challenge.rw_bundlehouse_k63_a_walk_of_packs.row.prog w 2746
noncomputable abbrev sX : Shared → Bool := (fun s => xlAt qP [] s && recOk (RowW.records PySem.Challenge.rw_bundlehouse_k63_a_walk_of_packs.row.toRowW) s)
noncomputable abbrev sL : List Str := "_wall" :: "spread" :: "Walk" :: "PacksWalk" :: "blocks_in" :: "next_parts" :: "_law_cell_at" :: "_law_stream" :: "_law_names" :: "_law_sum" :: "_law_row" :: "_law_blocks" :: "_law_there" :: "_law_roots" :: "_law_made" :: "_law_rows" :: "_law_firsts" :: "_law_ahead" :: "_law_right" :: []
noncomputable abbrev sS (s : Shared) := openSeen qP sL (importedModules PySem.Challenge.rw_bundlehouse_k63_a_walk_of_packs.row.prog.main.body) sX true s
theorem run1 : ∀ w, ((sE w).map fun s => sS s) = some (openGood qP sL) := fun w => by kernel_rfl
theorem run6 : ∀ w, ((sE w).map fun s => (heapA.take 66).map s.heap.get?) = some (((heapK w.params).take 66).map fun p => some p.2) := fun w => by kernel_rfl
theorem run7 : ∀ w, ((sE w).map fun s => (heapA.drop 66).map s.heap.get?) = some (((heapK w.params).drop 66).map fun p => some p.2) := fun w => by kernel_rfl
theorem top_run : LeftO PySem.Challenge.rw_bundlehouse_k63_a_walk_of_packs.row.prog qP sL sX (kHook heapK heapA heapE).obs (kHook heapK heapA heapE).val 2746 := HD.left_ofL 66 run1 run6 run7
end K63
set_option Elab.async false
set_option linter.all false
set_option maxRecDepth 100000
namespace L2
open PySem PySem.Spec PyProof.Rows
noncomputable abbrev Key := Sum Int Str
noncomputable def keyIs : Key → Value → Bool
  | .inl k, v => Value.isInt k v
  | .inr x, v => Value.isStrOf x v
noncomputable def keyH (w : World) : Key → Int
  | .inl k => hashInt k
  | .inr x => hashStr w x
theorem keyIs_shape : ∀ {k : Key} {v : Value}, keyIs k v = true → (∃ i t, k = Sum.inl i ∧ v = Value.int i t) ∨ (∃ x t, k = Sum.inr x ∧ v = Value.str x t)
  | .inl i, v, h => by
    obtain ⟨t, e⟩ := Value.isInt_shape (k := i) (v := v) h
    exact .inl ⟨i, t, rfl, e⟩
  | .inr x, v, h => by
    obtain ⟨t, e⟩ := Value.isStrOf_shape (x := x) (v := v) h
    exact .inr ⟨x, t, rfl, e⟩
theorem keyIs_int (i : Int) (t : Tok) : keyIs (.inl i) (.int i t) = true := by simp [keyIs, Value.isInt]
theorem keyIs_str (x : Str) (t : Tok) : keyIs (.inr x) (.str x t) = true := by simp [keyIs, Value.isStrOf]
theorem key_ll (a b : Int) : decide ((Sum.inl a : Key) = Sum.inl b) = (a == b) := by
  by_cases e : a = b
  · subst e; simp
  · have h : ¬ (Sum.inl a : Key) = Sum.inl b := fun q => e (Sum.inl.inj q)
    rw [decide_eq_false h]
    exact (beq_eq_false_iff_ne.mpr e).symm
theorem key_rr (a b : Str) : decide ((Sum.inr a : Key) = Sum.inr b) = decide (a = b) := by
  by_cases e : a = b
  · subst e; simp
  · have h : ¬ (Sum.inr a : Key) = Sum.inr b := fun q => e (Sum.inr.inj q)
    rw [decide_eq_false h, decide_eq_false e]
theorem key_lr (a : Int) (b : Str) : decide ((Sum.inl a : Key) = Sum.inr b) = false := decide_eq_false (fun q => nomatch q)
theorem key_rl (a : Str) (b : Int) : decide ((Sum.inr a : Key) = Sum.inl b) = false := decide_eq_false (fun q => nomatch q)
noncomputable def mixKind (prog : Program) (w : World) : PySem.KeyKind prog w Key where
  is := keyIs
  hash := keyH w
  inj := fun v a b ha hb => by
    rcases keyIs_shape ha with ⟨i, t, rfl, rfl⟩ | ⟨x, t, rfl, rfl⟩
    · rcases keyIs_shape hb with ⟨j, u, rfl, e⟩ | ⟨y, u, rfl, e⟩
      · injection e with e1 _; rw [e1]
      · exact nomatch e
    · rcases keyIs_shape hb with ⟨j, u, rfl, e⟩ | ⟨y, u, rfl, e⟩
      · exact nomatch e
      · injection e with e1 _; rw [e1]
  byValue := fun k v h => by
    rcases keyIs_shape h with ⟨i, t, rfl, rfl⟩ | ⟨x, t, rfl, rfl⟩ <;> rfl
  pyHash := fun hv h => by
    rcases keyIs_shape hv with ⟨i, t, rfl, rfl⟩ | ⟨x, t, rfl, rfl⟩
    · exact wpAny_pyHash_int h
    · exact wpAny_pyHash_str h
  eqBool := fun hu hv h => by
    rcases keyIs_shape hu with ⟨i, t, rfl, rfl⟩ | ⟨x, t, rfl, rfl⟩
    · rcases keyIs_shape hv with ⟨j, u, rfl, rfl⟩ | ⟨y, u, rfl, rfl⟩
      · rw [key_ll] at h; exact wpAny_eqBool_int h
      · rw [key_lr] at h; exact SeqAt.EqAt.int_str i t y u _ _ _ _ h
    · rcases keyIs_shape hv with ⟨j, u, rfl, rfl⟩ | ⟨y, u, rfl, rfl⟩
      · rw [key_rl] at h; exact SeqAt.EqAt.str_int x t j u _ _ _ _ h
      · rw [key_rr] at h; exact wpAny_eqBool_str h
  «strs» := fun k x t v h => by
    rcases keyIs_shape h with ⟨i, u, rfl, e⟩ | ⟨y, u, rfl, e⟩
    · exact nomatch e
    · injection e with e1 _
      subst e1
      cases v <;> rfl
theorem mixKind_int (prog : Program) (w : World) (i : Int) (t : Tok) : (mixKind prog w).is (.inl i) (.int i t) = true := keyIs_int i t
theorem mixKind_str (prog : Program) (w : World) (x : Str) (t : Tok) : (mixKind prog w).is (.inr x) (.str x t) = true := keyIs_str x t
end L2
namespace L2
open PySem PySem.Spec PyProof.Rows
inductive V where
  | non | bl (b : Bool) | int (i : Int) | str (x : Str) | byt (b : Array UInt8) | flt (b : UInt64) | ref (a : Addr) | ty (n : String)
  deriving DecidableEq
noncomputable def RelV : V → Value → Prop
  | .non, u => u = Value.none
  | .bl b, u => u = Value.bool b
  | .int i, u => ∃ t, u = Value.int i t
  | .str x, u => ∃ t, u = Value.str x t
  | .byt b, u => ∃ t, u = Value.bytes b t
  | .flt b, u => ∃ t, u = Value.float b t
  | .ref a, u => u = Value.ref a
  | .ty n, u => u = Value.type n
noncomputable abbrev Vals : List V → List Value → Prop := Paired RelV
theorem Vals.length {xs : List V} {us : List Value} (r : Vals xs us) : xs.length = us.length := Paired.length r
theorem Vals.get : ∀ {xs : List V} {us : List Value} {i : Nat} {x : V}, Vals xs us → xs[i]? = some x → ∃ u, us[i]? = some u ∧ RelV x u
  | _, _, _, _, .nil, e => by simp at e
  | _, _, 0, _, .cons r _, e => by simp at e; subst e; exact ⟨_, rfl, r⟩
  | _, _, i + 1, x, .cons _ t, e => by
    obtain ⟨u, h1, h2⟩ := Vals.get (i := i) (x := x) t (by simpa using e)
    exact ⟨u, by simpa using h1, h2⟩
theorem Vals.append : ∀ {xs ys : List V} {us ws : List Value}, Vals xs us → Vals ys ws → Vals (xs ++ ys) (us ++ ws)
  | _, _, _, _, .nil, s => s
  | _, _, _, _, .cons r t, s => .cons r (Vals.append t s)
theorem Vals.take : ∀ {xs : List V} {us : List Value} (n : Nat), Vals xs us → Vals (xs.take n) (us.take n)
  | _, _, 0, _ => .nil
  | _, _, _ + 1, .nil => .nil
  | _, _, n + 1, .cons r t => .cons r (Vals.take n t)
theorem Vals.drop : ∀ {xs : List V} {us : List Value} (n : Nat), Vals xs us → Vals (xs.drop n) (us.drop n)
  | _, _, 0, r => r
  | _, _, _ + 1, .nil => .nil
  | _, _, n + 1, .cons _ t => Vals.drop n t
noncomputable def RelO : Option V → Option Value → Prop
  | some v, some u => RelV v u
  | none, none => True
  | _, _ => False
noncomputable def KV {κ : Type} : List (κ × V) → List (κ × Value) → Prop := Paired fun (p : κ × V) (q : κ × Value) => p.1 = q.1 ∧ RelV p.2 q.2
noncomputable def kV : Key → V
  | .inl i => .int i
  | .inr x => .str x
inductive HO where
  | lst (xs : List V)
  | tup (xs : List V)
  | dK (kvs : List (Key × V)) | dT (kvs : List (List Key × V))
  | set (S : Int → Bool) (n : Nat)
  | ins (C dx : Addr) (fs : List (Str × V))
  | own (x : Addr)
  | xd (fs : List (Str × V))
  | met (f x : Addr)
  | rng (lo hi : Int)
  | frz (o : Obj) (u : HO)
  | tbl (ps : Array Value)
  | ext (φ : Heap → Prop)
noncomputable abbrev Hp := Addr → Option HO
noncomputable def upd (H : Hp) (a : Addr) (o : HO) : Hp := fun b => if b = a then some o else H b
theorem upd_same {H : Hp} {a : Addr} {o : HO} : upd H a o a = some o := by unfold upd; rw [if_pos rfl]
theorem upd_ne {H : Hp} {a b : Addr} {o : HO} (h : b ≠ a) : upd H a o b = H b := by unfold upd; rw [if_neg h]
theorem upd_upd {H : Hp} {a : Addr} {o u : HO} : upd (upd H a o) a u = upd H a u := by
  funext b; unfold upd; split <;> rfl
theorem ne_of {H : Hp} {a b : Addr} {o u : HO} (h : H a = some o) (h' : H b = some u) (d : o ≠ u) : a ≠ b := by
  intro e; subst e; rw [h] at h'; exact d (Option.some.inj h')
theorem ne_of_none {H : Hp} {a b : Addr} {o : HO} (h : H a = some o) (h' : H b = none) : a ≠ b := by
  intro e; subst e; rw [h] at h'; cases h'
section
variable (P : Program) (w : World)
noncomputable def ObjOk (H : Hp) (h : Heap) (a : Addr) : HO → Prop
  | .lst xs => xs.length ≤ sizeLine ∧ ∃ (its : List Value) (n : Nat), Vals xs its ∧ h.get? a = some { cls := .type "list", data := .seq its.toArray n }
  | .tup xs => xs.length ≤ sizeLine ∧ ∃ its : List Value, Vals xs its ∧ IsTup h a its.toArray
  | .dK kvs => kvs.length ≤ sizeLine ∧ (a == sysModules) = false ∧ ∃ vs, KV kvs vs ∧ h.DictOf (mixKind P w) a vs
  | .dT kvs => kvs.length ≤ sizeLine ∧ (a == sysModules) = false ∧ ∃ xs : List (List Key × Addr × Value),
      Paired (fun (p : List Key × V) (q : List Key × Addr × Value) => p.1 = q.1 ∧ H q.2.1 = some (.tup (p.1.map kV)) ∧ RelV p.2 q.2.2) kvs xs ∧
      ∃ o es ep, h.get? a = some o ∧ o.ExactDict ∧ o.data = .dict es ep ∧ es.toList = xs.map (entryOfKey (tupleKind (mixKind P w))) ∧ (xs.map (·.1)).Nodup
  | .set S n => h.SetOf (intKind P w) a S n
  | .ins C dx fs => H dx = some (.own a) ∧ fs.length ≤ 1000 ∧ dx ≠ a ∧ h.get? a = some (PySem.W.instObj C dx) ∧
      ∃ mA, h.Ns1 dx mA ∧ (∀ f, RelO (fs.lookup f) (mA f)) ∧ PySem.Within mA (fs.map (·.1))
  | .own _ => ∃ o, h.get? a = some o
  | .xd fs => ∃ mA, h.Ns1 a mA ∧ ∀ f, RelO (fs.lookup f) (mA f)
  | .rng lo hi => ∃ t u v, h.get? a = some { cls := .type "range", data := .fields #[.int lo t, .int hi u, .int 1 v] }
  | .frz o u => h.get? a = some o ∧ ObjOk H h a u
  | .tbl ps => h.get? a = some { cls := .none, data := .fields ps }
  | .met f x => h.get? a = some (PySem.W.methodObj (.ref f) (.ref x))
  | .ext φ => φ h ∧ (∃ o, h.get? a = some o) ∧ ∀ h1 h2 : Heap, φ h1 → (∀ o, h1.get? a = some o → h2.get? a = some o) → φ h2
noncomputable def HOk (H : Hp) (h : Heap) : Prop := ∀ a o, H a = some o → ObjOk P w H h a o
end
section
variable {P : Program} {w : World} {H H' : Hp} {h h' : Heap} {a : Addr} {o : HO}
theorem ObjOk.lt (x : ObjOk P w H h a o) : a < h.objs.size := by
  cases o with
  | lst xs => obtain ⟨_, _, _, _, e⟩ := x; exact Heap.lt_size e
  | tup xs => obtain ⟨_, _, _, p⟩ := x; exact p.lt
  | dK kvs => obtain ⟨_, _, _, _, o, _, _, e, _⟩ := x; exact Heap.lt_size e
  | dT kvs => obtain ⟨_, _, _, _, o, _, _, e, _⟩ := x; exact Heap.lt_size e
  | set S n => obtain ⟨o, _, _, _, e, _⟩ := x; exact Heap.lt_size e
  | ins C dx fs => obtain ⟨_, _, _, e, _⟩ := x; exact Heap.lt_size e
  | own y => obtain ⟨_, e⟩ := x; exact Heap.lt_size e
  | xd fs => obtain ⟨_, ⟨_, _, _, e, _⟩, _⟩ := x; exact Heap.lt_size e
  | rng lo hi => obtain ⟨_, _, _, e⟩ := x; exact Heap.lt_size e
  | frz ob u => obtain ⟨e, _⟩ := x; exact Heap.lt_size e
  | tbl ps => exact Heap.lt_size (show h.get? a = some _ from x)
  | met f y => exact Heap.lt_size (show h.get? a = some _ from x)
  | ext φ => obtain ⟨_, ⟨_, e⟩, _⟩ := x; exact Heap.lt_size e
theorem Paired.mapP {α β : Type} {F G : α → β → Prop} : ∀ {l₁ : List α} {l₂ : List β}, Paired F l₁ l₂ → (∀ a b, F a b → G a b) → Paired G l₁ l₂
  | _, _, .nil, _ => .nil
  | _, _, .cons r t, f => .cons (f _ _ r) (Paired.mapP t f)
theorem ObjOk.stay (x : ObjOk P w H h a o) (k : ∀ b u, (b = a ∨ H b = some (.own a)) → h.get? b = some u → h'.get? b = some u)
    (ho : ∀ b, H b = some (.own a) → H' b = some (.own a)) (ht : ∀ b xs, H b = some (.tup xs) → H' b = some (.tup xs)) : ObjOk P w H' h' a o := by
  induction o with
  | lst xs => obtain ⟨z, its, n, r, e⟩ := x; exact ⟨z, its, n, r, k _ _ (.inl rfl) e⟩
  | tup xs => obtain ⟨z, its, r, ob, e, c⟩ := x; exact ⟨z, its, r, ob, k _ _ (.inl rfl) e, c⟩
  | dK kvs => obtain ⟨z, y, vs, r, ob, es, ep, e, c⟩ := x; exact ⟨z, y, vs, r, ob, es, ep, k _ _ (.inl rfl) e, c⟩
  | dT kvs =>
    obtain ⟨z, y, xs, r, ob, es, ep, e, c⟩ := x
    exact ⟨z, y, xs, Paired.mapP r fun p q z => ⟨z.1, ht _ _ z.2.1, z.2.2⟩, ob, es, ep, k _ _ (.inl rfl) e, c⟩
  | set S n => obtain ⟨ob, es, ep, t, e, c⟩ := x; exact ⟨ob, es, ep, t, k _ _ (.inl rfl) e, c⟩
  | ins C dx fs =>
    obtain ⟨d, z, ne, e, mA, ⟨od, es, ep, e2, c⟩, r⟩ := x
    exact ⟨ho _ d, z, ne, k _ _ (.inl rfl) e, mA, ⟨od, es, ep, k _ _ (.inr d) e2, c⟩, r⟩
  | own y => obtain ⟨ob, e⟩ := x; exact ⟨ob, k _ _ (.inl rfl) e⟩
  | xd fs => obtain ⟨mA, ⟨od, es, ep, e, c⟩, r⟩ := x; exact ⟨mA, ⟨od, es, ep, k _ _ (.inl rfl) e, c⟩, r⟩
  | rng lo hi => obtain ⟨t, u, v, e⟩ := x; exact ⟨t, u, v, k _ _ (.inl rfl) e⟩
  | frz ob u ih => obtain ⟨e, q⟩ := x; exact ⟨k _ _ (.inl rfl) e, ih q⟩
  | tbl ps =>
    have e : h.get? a = some { cls := .none, data := .fields ps } := x
    show h'.get? a = some { cls := .none, data := .fields ps }
    exact k a _ (.inl rfl) e
  | met f y =>
    have e : h.get? a = some (PySem.W.methodObj (.ref f) (.ref y)) := x
    show h'.get? a = some (PySem.W.methodObj (.ref f) (.ref y))
    exact k a _ (.inl rfl) e
  | ext φ => obtain ⟨p, ⟨o, e⟩, st⟩ := x; exact ⟨st _ _ p fun o q => k _ _ (.inl rfl) q, ⟨o, k _ _ (.inl rfl) e⟩, st⟩
theorem HOk.lt (x : HOk P w H h) (e : H a = some o) : a < h.objs.size := (x a o e).lt
theorem HOk.fresh (x : HOk P w H h) (e : h.objs.size ≤ a) : H a = none := by
  cases q : H a with
  | none => rfl
  | some u => exact absurd (Nat.lt_of_lt_of_le (x.lt q) e) (Nat.lt_irrefl _)
theorem HOk.kept (x : HOk P w H h) (k : ∀ b u, h.get? b = some u → h'.get? b = some u) : HOk P w H h' := fun a o e =>
  (x a o e).stay (fun b u _ q => k b u q) (fun _ q => q) fun _ _ q => q
theorem HOk.laid (x : HOk P w H h) (k : ∀ b u, h.get? b = some u → h'.get? b = some u) (hp : h.objs.size ≤ a) (new : ObjOk P w (upd H a o) h' a o) : HOk P w (upd H a o) h' := fun b u e => by
  have hn := x.fresh hp
  by_cases hb : b = a
  · subst hb; rw [upd_same] at e; cases e; exact new
  · rw [upd_ne hb] at e
    exact (x b u e).stay (fun c v _ q => k c v q) (fun c q => by rw [upd_ne (ne_of_none q hn)]; exact q) fun c xs q => by rw [upd_ne (ne_of_none q hn)]; exact q
end
noncomputable def Rd (H : Hp) (a : Addr) (u : HO) : Prop := H a = some u ∨ ∃ o, H a = some (.frz o u)
theorem Rd.ok {P : Program} {w : World} {H : Hp} {h : Heap} {a : Addr} {u : HO} (r : Rd H a u) (x : HOk P w H h) : ObjOk P w H h a u := by
  rcases r with r | ⟨o, r⟩
  · exact x a u r
  · obtain ⟨_, q⟩ := x a _ r
    exact q
noncomputable def Mut : Option HO → Prop
  | some (.lst _) => True
  | some (.dK _) => True
  | some (.dT _) => True
  | some (.set _ _) => True
  | some (.ins _ _ _) => True
  | some (.ext _) => True
  | _ => False
section
variable {P : Program} {w : World} {H : Hp} {h h' : Heap} {x e : Addr} {o' : HO}
theorem HOk.write (ok : HOk P w H h) (mu : Mut (H x)) (he : e = x ∨ H e = some (.own x)) (k : ∀ b u, b ≠ e → h.get? b = some u → h'.get? b = some u) (heo : ∃ u, h'.get? e = some u)
    (new : ObjOk P w (upd H x o') h' x o') : HOk P w (upd H x o') h' := fun b u q => by
  have nown : ∀ c y, H c = some (.own y) → c ≠ x := fun c y r z => by subst z; rw [r] at mu; exact mu
  have ntup : ∀ c xs, H c = some (.tup xs) → c ≠ x := fun c xs r z => by subst z; rw [r] at mu; exact mu
  by_cases hb : b = x
  · subst hb; rw [upd_same] at q; cases q; exact new
  · rw [upd_ne hb] at q
    by_cases hbe : b = e
    · have q' : H b = some (.own x) := by
        rcases he with z | z
        · exact absurd (hbe.trans z) hb
        · rw [hbe]; exact z
      rw [q] at q'; cases q'
      obtain ⟨v, hv⟩ := heo
      exact ⟨v, by rw [hbe]; exact hv⟩
    · refine (ok b u q).stay (fun c v hc r => k c v ?_ r) (fun c r => by rw [upd_ne (nown c b r)]; exact r) fun c xs r => by rw [upd_ne (ntup c xs r)]; exact r
      rcases hc with rfl | hc
      · exact hbe
      · rintro rfl
        rcases he with z | z
        · exact nown c b hc z
        · rw [hc] at z; cases z; exact hb rfl
end
structure Un (fs ex : List Addr) (H H' : Hp) (h h' : Heap) : Prop where
  keep : ∀ b o, h.get? b = some o → H b = none → b ∉ fs → b ∉ ex → h'.get? b = some o
  slot : ∀ b o, h.get? b = some o → H b = none → b ∈ fs → b ∉ ex → ∃ sl, h'.get? b = some { o with slots := sl }
  free : ∀ b o, h.get? b = some o → H b = none → b ∉ ex → H' b = none
  there : ∀ b o, h.get? b = some o → b ∉ ex → ∃ o', h'.get? b = some o'
  tups : ∀ b xs, H b = some (.tup xs) → H' b = some (.tup xs)
  frzs : ∀ b o u, H b = some (.frz o u) → H' b = some (.frz o u)
  tbls : ∀ b ps, H b = some (.tbl ps) → ∃ more, H' b = some (.tbl (ps ++ more))
section
variable {fs fs' ex ex' : List Addr} {H H1 H2 : Hp} {h h1 h2 h' : Heap} {a x e : Addr} {o : HO}
theorem Un.any (u : Un fs ex H H1 h h1) {b : Addr} {ob : Obj} (q : h.get? b = some ob) (n : H b = none) (hx : b ∉ ex) : ∃ sl, h1.get? b = some { ob with slots := sl } := by
  by_cases hb : b ∈ fs
  · exact u.slot b ob q n hb hx
  · exact ⟨ob.slots, u.keep b ob q n hb hx⟩
theorem Un.kept (k : ∀ b u, h.get? b = some u → h'.get? b = some u) : Un fs ex H H h h' :=
  ⟨fun b ob q _ _ _ => k b ob q, fun b ob q _ _ _ => ⟨ob.slots, k b ob q⟩, fun _ _ _ n _ => n, fun b ob q _ => ⟨ob, k b ob q⟩, fun _ _ q => q, fun _ _ _ q => q, fun _ ps q => ⟨#[], by rw [q]; simp⟩⟩
theorem Un.refl : Un fs ex H H h h := Un.kept fun _ _ q => q
theorem Un.laid (k : ∀ b u, h.get? b = some u → h'.get? b = some u) (hp : h.objs.size ≤ a) (hn : H a = none) : Un fs ex H (upd H a o) h h' where
  keep := fun b u q _ _ _ => k b u q
  slot := fun b u q _ _ _ => ⟨u.slots, k b u q⟩
  free := fun b u q n _ => by rw [upd_ne (Nat.ne_of_lt (Nat.lt_of_lt_of_le (Heap.lt_size q) hp))]; exact n
  there := fun b u q _ => ⟨u, k b u q⟩
  tups := fun b xs q => by rw [upd_ne (ne_of_none q hn)]; exact q
  frzs := fun b u xs q => by rw [upd_ne (ne_of_none q hn)]; exact q
  tbls := fun b ps q => ⟨#[], by rw [upd_ne (ne_of_none q hn), q]; simp⟩
theorem Un.write (mu : Mut (H x)) (he : e = x ∨ H e = some (.own x)) (k : ∀ b u, b ≠ e → h.get? b = some u → h'.get? b = some u) (heo : ∃ u, h'.get? e = some u) : Un fs ex H (upd H x o) h h' := by
  have hx : ∀ b, H b = none → b ≠ x := fun b n z => by subst z; rw [n] at mu; exact mu
  have hb : ∀ b, H b = none → b ≠ e := fun b n z => by
    subst z
    rcases he with r | r
    · exact hx b n r
    · rw [n] at r; cases r
  have hm : ∀ b u, H b = some u → ¬ Mut (some u) → b ≠ x := fun b u q nm z => by subst z; rw [q] at mu; exact nm mu
  refine ⟨fun b u q n _ _ => k b u (hb b n) q, fun b u q n _ _ => ⟨u.slots, k b u (hb b n) q⟩, fun b u q n _ => by rw [upd_ne (hx b n)]; exact n, fun b u q _ => ?_,
    fun b xs q => by rw [upd_ne (hm b _ q fun z => z)]; exact q, fun b u xs q => by rw [upd_ne (hm b _ q fun z => z)]; exact q, fun b ps q => ⟨#[], by rw [upd_ne (hm b _ q fun z => z), q]; simp⟩⟩
  by_cases hbe : b = e
  · subst hbe; exact heo
  · exact ⟨u, k b u hbe q⟩
end
noncomputable def trk (h : Heap) (H : Hp) : List Addr := (List.range h.objs.size).filter fun a => (H a).isSome
noncomputable def hidT (h : Heap) (H : Hp) : Heap := PySem.W.hideAll h (trk h H)
theorem hidT_size (h : Heap) (H : Hp) : (hidT h H).objs.size = h.objs.size := PySem.W.hideAll_size _ _
theorem hidT_get {h : Heap} {H : Hp} {b : Addr} {o : Obj} (e : h.get? b = some o) (n : H b = none) : (hidT h H).get? b = some o :=
  PySem.W.hideAll_get _ e fun hm => by
    have q : (H b).isSome = true := (List.mem_filter.mp hm).2
    rw [n] at q; simp at q
theorem of_hidT {h : Heap} {H : Hp} {b : Addr} {o : Obj} (e : (hidT h H).get? b = some o) : h.get? b = some o ∧ H b = none := by
  have e' : h.get? b = some o := PySem.W.of_hideAll (trk h H) e
  refine ⟨e', ?_⟩
  cases q : H b with
  | none => rfl
  | some x =>
    have hm : b ∈ trk h H := List.mem_filter.mpr ⟨List.mem_range.mpr (Heap.lt_size e'), by simp [q]⟩
    have z : (hidT h H).get? b = none := PySem.W.hideAll_none (trk h H) hm
    rw [z] at e; cases e
end L2
namespace L2
open PySem PySem.Spec PyProof.Rows
structure Mod (K : PySem.W.Frag) (mg : Str → Option Value) (base : Heap) : Prop where
  kin : K.In base
  glob : base.Ns mainGlobals mg
  blt : ∃ mb, base.Ns builtinsNs mb ∧ ∀ x : Str, x ≠ "__name__" → mb x = bootBuiltins x
  nolimit : base.NoLimit
structure Cx where
  prog : Program
  w : World
  K : PySem.W.Frag
  mg : Str → Option Value
  base : Heap
  A : Around
  N : List Str
  s₀ : Shared
  H₀ : Hp
  env : Env
  outer : List Env
  stack : List Env
  ex : List Addr
  fn : Str → Bool
  calm : Bool
  pn : List (Addr × Obj)
  xe : Value → Shared → Prop
noncomputable def frs (l : List Env) : List Addr := l.filterMap (·.frame)
noncomputable abbrev Cx.fs (X : Cx) : List Addr := frs X.outer
noncomputable def Vis (sc : Scope) (x : Str) : Prop := sc.names.lookup x = some .local ∨ sc.names.lookup x = some .cell ∨ sc.names.lookup x = some .free
noncomputable def Loc (sc : Scope) (x : Str) : Prop := sc.names.lookup x = some .local ∨ sc.names.lookup x = some .cell
noncomputable def Look (env : Env) (h : Heap) (m : Str → Option Value) (x : Str) (u : Value) : Prop :=
  (env.kindOf x = some .local ∧ m x = some u) ∨ ((env.kindOf x = some .cell ∨ env.kindOf x = some .free) ∧ ∃ c, env.cells.lookup x = some c ∧ h.IsCell c (some u))
structure Cx.Ok (X : Cx) : Prop where
  mod : Mod X.K X.mg X.base
  kind : X.env.scope.kind = .function
  glob : X.env.globals = mainGlobals
  blt : X.env.builtins = builtinsNs
  above : X.s₀.heap.objs.size ≤ X.env.locals
  inj : ∀ x y c, X.env.cells.lookup x = some c → X.env.cells.lookup y = some c → x = y
  has : ∀ x, (X.env.kindOf x = some .cell ∨ X.env.kindOf x = some .free) → ∃ c, X.env.cells.lookup x = some c
  cab : ∀ x c, X.fn x = true → X.env.cells.lookup x = some c → X.s₀.heap.objs.size ≤ c
  hd : X.calm = true → X.A.handled = none
  frames : X.A.frames = some X.stack
  stk : X.stack = X.outer ∨ (X.stack = X.env :: X.outer ∧ X.env.frame = some X.env.locals)
  exf : ∀ b ∈ X.ex, b ≠ X.env.locals ∧ ∀ x c, X.env.cells.lookup x = some c → c ≠ b
  bs : ∀ b o, X.base.get? b = some o → X.s₀.heap.get? b = some o ∧ X.H₀ b = none
  bsz : X.base.objs.size ≤ X.s₀.heap.objs.size
  noex : ∀ b o, X.base.get? b = some o → b ∉ X.ex
  exfs : ∀ b ∈ X.ex, b ∉ X.fs
  funs : X.s₀.heap.FunFrames X.base X.outer
  frf : ∀ b ∈ X.fs, X.H₀ b = none
structure Inv (X : Cx) (pins : List (Addr × Obj)) (σ : List (Option V)) (H : Hp) (s : Shared) : Prop where
  ok : X.Ok
  os : s.os = X.s₀.os
  bare : AllBare s.gens
  base : Un X.fs X.ex X.H₀ H X.s₀.heap s.heap
  loc : ∃ m, s.heap.Ns X.env.locals m ∧ ∀ (i : Nat) (x : Str) (v : V), X.N[i]? = some x → σ[i]? = some (some v) → Vis X.env.scope x → ∃ u, RelV v u ∧ Look X.env s.heap m x u
  cell : ∀ x c, X.env.cells.lookup x = some c → ∃ v, s.heap.IsCell c v
  free : H X.env.locals = none
  freeC : ∀ x c, X.env.cells.lookup x = some c → H c = none
  pin : ∀ p ∈ X.pn ++ pins, s.heap.get? p.1 = some p.2 ∧ H p.1 = none ∧ p.1 ≠ X.env.locals ∧ p.1 ∉ X.fs ∧ ∀ v, p.2.data ≠ .cell v
  hok : HOk X.prog X.w H s.heap
  len : σ.length = X.N.length
section
variable {X : Cx} {pins : List (Addr × Obj)} {σ : List (Option V)} {H H' : Hp} {s : Shared} {h' : Heap}
theorem Cx.Ok.nofr (ok : X.Ok) {b : Addr} {o : Obj} (e : X.base.get? b = some o) : b ∉ X.fs := fun hb => by
  have := (ok.funs.mem hb).1
  rw [e] at this; cases this
theorem Inv.bs (I : Inv X pins σ H s) : ∀ b o, X.base.get? b = some o → s.heap.get? b = some o ∧ H b = none := fun b o e =>
  ⟨I.base.keep b o (I.ok.bs b o e).1 (I.ok.bs b o e).2 (I.ok.nofr e) (I.ok.noex b o e), I.base.free b o (I.ok.bs b o e).1 (I.ok.bs b o e).2 (I.ok.noex b o e)⟩
theorem Inv.bk (I : Inv X pins σ H s) : ∀ b o, X.base.get? b = some o → s.heap.get? b = some o := fun b o e => (I.bs b o e).1
theorem Inv.mod (I : Inv X pins σ H s) : Mod X.K X.mg X.base := I.ok.mod
theorem Inv.kIn (I : Inv X pins σ H s) : X.K.In s.heap := I.ok.mod.kin.keeps I.bk
theorem Inv.lt (I : Inv X pins σ H s) : X.env.locals < s.heap.objs.size := let ⟨_, hn, _⟩ := I.loc; hn.lt
theorem Inv.sz (I : Inv X pins σ H s) : X.s₀.heap.objs.size ≤ s.heap.objs.size := Nat.le_trans I.ok.above (Nat.le_of_lt I.lt)
theorem Inv.nofs (I : Inv X pins σ H s) {a : Addr} (h : s.heap.objs.size ≤ a) : a ∉ X.fs := fun hb => by
  obtain ⟨_, o, ho, _⟩ := I.ok.funs.mem hb
  exact absurd (Nat.lt_of_lt_of_le (Heap.lt_size ho) (Nat.le_trans I.sz h)) (Nat.lt_irrefl _)
theorem Inv.cne (I : Inv X pins σ H s) : ∀ x c, X.env.cells.lookup x = some c → c ≠ X.env.locals := fun x c e z => by
  obtain ⟨v, o, ho, hd⟩ := I.cell x c e
  obtain ⟨m, ⟨o', es, ep, ho', hd', _⟩, _⟩ := I.loc
  rw [z, ho'] at ho; cases ho; rw [hd'] at hd; cases hd
theorem Inv.funs (I : Inv X pins σ H s) : s.heap.FunFrames X.base X.outer := by
  have all : ∀ (l : List Env), (∀ b ∈ frs l, b ∈ X.fs) → X.s₀.heap.FunFrames X.base l → s.heap.FunFrames X.base l := by
    intro l
    induction l with
    | nil => intro _ _; trivial
    | cons env r ih =>
      intro hs hl
      obtain ⟨hk, ⟨L, o, hf, hn, ho, hd⟩, hr⟩ := hl
      have hL : L ∈ X.fs := hs L (by unfold frs; rw [List.filterMap_cons, hf]; exact List.mem_cons_self)
      obtain ⟨sl, e⟩ := I.base.slot L o ho (I.ok.frf L hL) hL fun z => I.ok.exfs L z hL
      exact ⟨hk, ⟨L, _, hf, hn, e, hd⟩, ih (fun b hb => hs b (by unfold frs; rw [List.filterMap_cons, hf]; exact List.mem_cons_of_mem _ hb)) hr⟩
  exact all X.outer (fun _ hb => hb) I.ok.funs
theorem Inv.stack (I : Inv X pins σ H s) : s.heap.FunFrames X.base X.stack := by
  rcases I.ok.stk with e | ⟨e, hf⟩
  · rw [e]; exact I.funs
  · rw [e]
    obtain ⟨m, hn, _⟩ := I.loc
    refine .cons (by rw [I.ok.kind]; decide) hf hn ?_ I.funs
    exact Heap.get?_none_of_le (Nat.le_trans I.ok.bsz I.ok.above)
theorem Inv.stkSub (I : Inv X pins σ H s) : ∀ b ∈ frs X.stack, b ∈ X.env.locals :: X.fs := fun b hb => by
  rcases I.ok.stk with e | ⟨e, hf⟩
  · rw [e] at hb; exact List.mem_cons_of_mem _ hb
  · rw [e] at hb
    unfold frs at hb
    rw [List.filterMap_cons, hf] at hb
    exact hb
theorem Inv.stkFree (I : Inv X pins σ H s) : ∀ b ∈ frs X.stack, H b = none := fun b hb => by
  rcases List.mem_cons.mp (I.stkSub b hb) with e | hb
  · rw [e]; exact I.free
  · obtain ⟨_, o, ho, _⟩ := I.ok.funs.mem hb
    exact I.base.free b o ho (I.ok.frf b hb) fun z => I.ok.exfs b z hb
theorem Inv.step {g' : Array GenState} {t' : Nat} {d' : Drawn} {ch : List Addr} (I : Inv X pins σ H s)
    (hch : ∀ b ∈ ch, (b ∈ X.ex ∨ X.s₀.heap.objs.size ≤ b) ∧ b ≠ X.env.locals ∧ (∀ x c, X.env.cells.lookup x = some c → c ≠ b) ∧ ∀ p ∈ X.pn ++ pins, p.1 ≠ b)
    (keep : ∀ b o, b ≠ X.env.locals → b ∉ X.fs → b ∉ ch → s.heap.get? b = some o → H b = none → h'.get? b = some o)
    (slot : ∀ b o, b ≠ X.env.locals → b ∈ X.fs → b ∉ ch → s.heap.get? b = some o → H b = none → ∃ sl, h'.get? b = some { o with slots := sl }) (free : ∀ b o, b ∉ ch → s.heap.get? b = some o → H b = none → H' b = none)
    (there : ∀ b o, b ∉ ch → s.heap.get? b = some o → ∃ o', h'.get? b = some o')
    (tups : ∀ b xs, H b = some (.tup xs) → H' b = some (.tup xs)) (frzs : ∀ b o u, H b = some (.frz o u) → H' b = some (.frz o u)) (tbls : ∀ b ps, H b = some (.tbl ps) → ∃ more, H' b = some (.tbl (ps ++ more)))
    (ns : ∀ m, s.heap.Ns X.env.locals m → h'.Ns X.env.locals m) (hok : HOk X.prog X.w H' h') (hg : AllBare g') :
    Inv X pins σ H' { s with heap := h', gens := g', drawn := d', toks := t' } := by
  have neL : ∀ b o, X.s₀.heap.get? b = some o → b ≠ X.env.locals := fun b o e => Nat.ne_of_lt (Nat.lt_of_lt_of_le (Heap.lt_size e) I.ok.above)
  have neC : ∀ b o, X.s₀.heap.get? b = some o → b ∉ X.ex → b ∉ ch := fun b o e hx hb => by
    rcases (hch b hb).1 with z | z
    · exact hx z
    · exact absurd (Nat.lt_of_lt_of_le (Heap.lt_size e) z) (Nat.lt_irrefl _)
  have cellK : ∀ x c, X.env.cells.lookup x = some c → ∀ v, s.heap.IsCell c v → h'.IsCell c v := fun x c e v ⟨o, ho, hd⟩ => by
    have nch : c ∉ ch := fun z => (hch c z).2.2.1 x c e rfl
    by_cases hc : c ∈ X.fs
    · obtain ⟨sl, q⟩ := slot c o (I.cne x c e) hc nch ho (I.freeC x c e)
      exact ⟨_, q, hd⟩
    · exact ⟨o, keep c o (I.cne x c e) hc nch ho (I.freeC x c e), hd⟩
  refine ⟨I.ok, I.os, hg, ⟨fun b o e n hb hx => ?_, fun b o e n hb hx => ?_, fun b o e n hx => ?_, fun b o e hx => ?_, fun b xs e => tups b xs (I.base.tups b xs e), fun b o xs e => frzs b o xs (I.base.frzs b o xs e), fun b ps e => ?_⟩, ?_, fun x c e => ?_, ?_, fun x c e => ?_, fun p hp => ?_, hok, I.len⟩
  · exact keep b o (neL b o e) hb (neC b o e hx) (I.base.keep b o e n hb hx) (I.base.free b o e n hx)
  · obtain ⟨sl, e1⟩ := I.base.slot b o e n hb hx
    obtain ⟨sl', e2⟩ := slot b _ (neL b o e) hb (neC b o e hx) e1 (I.base.free b o e n hx)
    exact ⟨sl', e2⟩
  · obtain ⟨o', e1⟩ := I.base.there b o e hx
    exact free b o' (neC b o e hx) e1 (I.base.free b o e n hx)
  · obtain ⟨o', e1⟩ := I.base.there b o e hx
    exact there b o' (neC b o e hx) e1
  · obtain ⟨m1, e1⟩ := I.base.tbls b ps e
    obtain ⟨m2, e2⟩ := tbls b _ e1
    exact ⟨m1 ++ m2, by rw [e2, Array.append_assoc]⟩
  · obtain ⟨m, hn, hl⟩ := I.loc
    refine ⟨m, ns m hn, fun i x v e1 e2 e3 => ?_⟩
    obtain ⟨u, r, l⟩ := hl i x v e1 e2 e3
    refine ⟨u, r, ?_⟩
    rcases l with l | ⟨k, c, e, z⟩
    · exact .inl l
    · exact .inr ⟨k, c, e, cellK x c e _ z⟩
  · obtain ⟨v, z⟩ := I.cell x c e
    exact ⟨v, cellK x c e v z⟩
  · obtain ⟨m, ⟨o, _, _, ho, _⟩, _⟩ := I.loc
    exact free _ o (fun z => (hch _ z).2.1 rfl) ho I.free
  · obtain ⟨v, o, ho, hd⟩ := I.cell x c e
    exact free c o (fun z => (hch c z).2.2.1 x c e rfl) ho (I.freeC x c e)
  · obtain ⟨e, n, ne, nf, d⟩ := I.pin p hp
    have nch : p.1 ∉ ch := fun z => (hch p.1 z).2.2.2 p hp rfl
    exact ⟨keep p.1 p.2 ne nf nch e n, free p.1 p.2 nch e n, ne, nf, d⟩
theorem Inv.un {t' : Nat} (I : Inv X pins σ H s) (u : Un X.fs [] H H' s.heap h') (hok : HOk X.prog X.w H' h') : Inv X pins σ H' { s with heap := h', toks := t' } := by
  obtain ⟨m, ⟨o, es, ep, ho, r⟩, _⟩ := id I.loc
  obtain ⟨sl, hL⟩ := u.any ho I.free (by simp)
  exact I.step (g' := s.gens) (d' := s.drawn) (ch := []) (fun _ z => nomatch z) (fun b o _ hb _ e n => u.keep b o e n hb (by simp)) (fun b o _ hb _ e n => u.slot b o e n hb (by simp)) (fun b o _ e n => u.free b o e n (by simp)) (fun b o _ e => u.there b o e (by simp)) u.tups u.frzs u.tbls (fun m' hm => by
    obtain ⟨o', es', ep', ho', r'⟩ := hm
    rw [ho] at ho'; cases ho'
    exact ⟨_, es', ep', hL, r'⟩) hok I.bare
theorem Inv.call {g' : Array GenState} {t' : Nat} {d' : Drawn} {ch : List Addr} (I : Inv X pins σ H s) (u : Un (frs X.stack) ch H H' s.heap h') (hok : HOk X.prog X.w H' h') (hg : AllBare g')
    (hch : ∀ b ∈ ch, (b ∈ X.ex ∨ X.s₀.heap.objs.size ≤ b) ∧ b ≠ X.env.locals ∧ (∀ x c, X.env.cells.lookup x = some c → c ≠ b) ∧ ∀ p ∈ X.pn ++ pins, p.1 ≠ b) :
    Inv X pins σ H' { s with heap := h', gens := g', drawn := d', toks := t' } := by
  obtain ⟨m, ⟨o, es, ep, ho, r⟩, _⟩ := id I.loc
  obtain ⟨sl, hL⟩ := u.any ho I.free fun z => (hch _ z).2.1 rfl
  exact I.step (ch := ch) hch (fun b o hL hb hc e n => u.keep b o e n (fun z => (List.mem_cons.mp (I.stkSub b z)).elim hL hb) hc) (fun b o _ _ hc e n => u.any e n hc) (fun b o hc e n => u.free b o e n hc) (fun b o hc e => u.there b o e hc) u.tups u.frzs u.tbls (fun m' hm => by
    obtain ⟨o', es', ep', ho', r'⟩ := hm
    rw [ho] at ho'; cases ho'
    exact ⟨_, es', ep', hL, r'⟩) hok hg
theorem Inv.turned {t' : Nat} {it : Addr} (I : Inv X pins σ H s) (k : ∀ b o, b ≠ it → s.heap.get? b = some o → h'.get? b = some o) (hn : H it = none) (hL : it ≠ X.env.locals)
    (h1 : it ∈ X.ex ∨ X.s₀.heap.objs.size ≤ it) (h2 : ∀ x c, X.env.cells.lookup x = some c → c ≠ it) (h3 : ∀ p ∈ X.pn ++ pins, p.1 ≠ it) : Inv X pins σ H { s with heap := h', toks := t' } := by
  have nit : ∀ b u, H b = some u → b ≠ it := fun b u e z => by rw [z, hn] at e; cases e
  refine I.step (g' := s.gens) (d' := s.drawn) (ch := [it]) (fun b hb => ?_) (fun b o _ _ hc e _ => k b o (fun z => hc (by simp [z])) e) (fun b o _ _ hc e _ => ⟨o.slots, k b o (fun z => hc (by simp [z])) e⟩) (fun _ _ _ _ n => n)
    (fun b o hc e => ⟨o, k b o (fun z => hc (by simp [z])) e⟩) (fun _ _ e => e) (fun _ _ _ e => e) (fun b ps e => ⟨#[], by rw [e]; simp⟩) (fun m hm => ?_) (fun b u e => ?_) I.bare
  · have e : b = it := by simpa using hb
    subst e
    exact ⟨h1, hL, h2, h3⟩
  · obtain ⟨o, es, ep, ho, r⟩ := hm
    exact ⟨o, es, ep, k _ o (Ne.symm hL) ho, r⟩
  · refine (I.hok b u e).stay (fun c v hc q => k c v ?_ q) (fun _ q => q) fun _ _ q => q
    rcases hc with z | z
    · rw [z]; exact nit b u e
    · exact nit c _ z
theorem Inv.tok (I : Inv X pins σ H s) (t : Nat) : Inv X pins σ H { s with toks := t } := I.un (h' := s.heap) (t' := t) Un.refl I.hok
theorem Inv.kept {t' : Nat} (I : Inv X pins σ H s) (k : ∀ b u, s.heap.get? b = some u → h'.get? b = some u) : Inv X pins σ H { s with heap := h', toks := t' } := I.un (Un.kept k) (I.hok.kept k)
theorem Inv.laid {a : Addr} {o : HO} {t' : Nat} (I : Inv X pins σ H s) (k : ∀ b u, s.heap.get? b = some u → h'.get? b = some u) (hp : s.heap.objs.size ≤ a) (new : ObjOk X.prog X.w (upd H a o) h' a o) :
    Inv X pins σ (upd H a o) { s with heap := h', toks := t' } := I.un (Un.laid k hp (I.hok.fresh hp)) (I.hok.laid k hp new)
theorem Inv.write {x e : Addr} {o : HO} {t' : Nat} (I : Inv X pins σ H s) (mu : Mut (H x)) (he : e = x ∨ H e = some (.own x)) (k : ∀ b u, b ≠ e → s.heap.get? b = some u → h'.get? b = some u) (heo : ∃ u, h'.get? e = some u)
    (new : ObjOk X.prog X.w (upd H x o) h' x o) : Inv X pins σ (upd H x o) { s with heap := h', toks := t' } := I.un (Un.write mu he k heo) (I.hok.write mu he k heo new)
theorem Inv.pins_of {pins' : List (Addr × Obj)} (I : Inv X pins σ H s) (h : ∀ p ∈ pins', s.heap.get? p.1 = some p.2 ∧ H p.1 = none ∧ p.1 ≠ X.env.locals ∧ p.1 ∉ X.fs ∧ ∀ v, p.2.data ≠ .cell v) : Inv X pins' σ H s :=
  ⟨I.ok, I.os, I.bare, I.base, I.loc, I.cell, I.free, I.freeC, fun p hp => (List.mem_append.mp hp).elim (fun z => I.pin p (List.mem_append_left _ z)) (h p), I.hok, I.len⟩
theorem nodup_ix {N : List Str} (hN : N.Nodup) {i j : Nat} {x : Str} (a : N[i]? = some x) (b : N[j]? = some x) : i = j := by
  obtain ⟨h1, e1⟩ := List.getElem?_eq_some_iff.mp a
  obtain ⟨h2, e2⟩ := List.getElem?_eq_some_iff.mp b
  exact (List.getElem_inj hN).mp (e1.trans e2.symm)
theorem store_ok2 {M : Model} {A : Around} {E : Value → Shared → Prop} {i : Nat} {x : Str} {v : V} {u : Value} {Q : Unit → Shared → Prop} (I : Inv X pins σ H s) (hN : X.N.Nodup) (hi : X.N[i]? = some x) (hx : Loc X.env.scope x) (r : RelV v u)
    (h : ∀ s', Inv X pins (σ.set i (some v)) H s' → (∃ a, Heap.SameBut a s.heap s'.heap ∧ (a = X.env.locals ∨ X.env.cells.lookup x = some a)) → Q () s') (hf : X.fn x = true ∨ X.env.scope.names.lookup x = some .local := by first | exact .inl rfl | exact .inr rfl | assumption) : wpAny M A (storeName X.env x u) Q E s := by
  obtain ⟨m, hn, hl⟩ := id I.loc
  have hcls : (X.env.scope.kind == .class || (X.env.scope.kind == .module && X.env.locals != X.env.globals)) = false := by rw [I.ok.kind]; rfl
  have hiσ : i < σ.length := by rw [I.len]; exact (List.getElem?_eq_some_iff.mp hi).1
  have cne := I.cne
  have tracked : ∀ {a : Addr} {h' : Heap}, (∃ o, s.heap.get? a = some o ∧ H a = none) → Heap.SameBut a s.heap h' → HOk X.prog X.w H h' := fun {a h'} ha hs b ob e => by
    obtain ⟨_, _, hfree⟩ := ha
    refine (I.hok b ob e).stay (fun c w' hc q => (hs.2 c ?_).trans q) (fun _ q => q) fun _ _ q => q
    rintro rfl
    rcases hc with rfl | hc
    · rw [hfree] at e; cases e
    · rw [hfree] at hc; cases hc
  rcases hx with hk | hk
  · refine wpAny_storeName_local hk hn (fun h' hn' hs => ?_) hcls
    obtain ⟨oL, _, _, hoL, _⟩ := id hn
    refine h _ ⟨I.ok, I.os, I.bare, ⟨fun b o e n hb hx => ?_, fun b o e n hb hx => ?_, I.base.free, fun b o e hx => ?_, I.base.tups, I.base.frzs, I.base.tbls⟩, ⟨_, hn', fun j y v' e1 e2 e3 => ?_⟩, fun y c e => ?_, I.free, I.freeC, fun p hp => ?_, tracked ⟨oL, hoL, I.free⟩ hs, by simpa using I.len⟩ ⟨_, hs, .inl rfl⟩
    · exact (hs.2 b (Nat.ne_of_lt (Nat.lt_of_lt_of_le (Heap.lt_size e) I.ok.above))).trans (I.base.keep b o e n hb hx)
    · obtain ⟨sl, e1⟩ := I.base.slot b o e n hb hx
      exact ⟨sl, (hs.2 b (Nat.ne_of_lt (Nat.lt_of_lt_of_le (Heap.lt_size e) I.ok.above))).trans e1⟩
    · obtain ⟨o', e1⟩ := I.base.there b o e hx
      exact ⟨o', (hs.2 b (Nat.ne_of_lt (Nat.lt_of_lt_of_le (Heap.lt_size e) I.ok.above))).trans e1⟩
    · by_cases hj : j = i
      · subst hj
        rw [hi] at e1; cases e1
        rw [List.getElem?_set_self hiσ] at e2
        cases e2
        exact ⟨u, r, .inl ⟨hk, by simp⟩⟩
      · rw [List.getElem?_set_ne (Ne.symm hj)] at e2
        obtain ⟨u', r', q⟩ := hl j y v' e1 e2 e3
        refine ⟨u', r', ?_⟩
        rcases q with ⟨k, e⟩ | ⟨k, c, e, z⟩
        · refine .inl ⟨k, ?_⟩
          have : y ≠ x := fun e => hj (nodup_ix hN e1 (e ▸ hi))
          simp [this, e]
        · exact .inr ⟨k, c, e, z.sameBut hs (cne y c e)⟩
    · obtain ⟨w', z⟩ := I.cell y c e
      exact ⟨w', z.sameBut hs (cne y c e)⟩
    · obtain ⟨e, n, ne, nf, d⟩ := I.pin p hp
      exact ⟨(hs.2 p.1 ne).trans e, n, ne, nf, d⟩
  · have hfn : X.fn x = true := by
      rcases hf with z | z
      · exact z
      · rw [z] at hk; cases hk
    obtain ⟨c, hc⟩ := I.ok.has x (.inl hk)
    obtain ⟨w', z⟩ := I.cell x c hc
    refine wpAny_storeName_cell I.ok.kind hk hc z (fun h' hc' hs => ?_)
    obtain ⟨oc, hoc, hocd⟩ := id z
    refine h { s with heap := h' } ⟨I.ok, I.os, I.bare, ⟨fun b o e n hb hx => ?_, fun b o e n hb hx => ?_, I.base.free, fun b o e hx => ?_, I.base.tups, I.base.frzs, I.base.tbls⟩, ⟨m, hn.sameBut hs (Ne.symm (cne x c hc)), fun j y v' e1 e2 e3 => ?_⟩, fun y c' e => ?_, I.free, I.freeC, fun p hp => ?_, tracked ⟨oc, hoc, I.freeC x c hc⟩ hs, by simpa using I.len⟩ ⟨c, hs, .inr hc⟩
    · exact (hs.2 b (Nat.ne_of_lt (Nat.lt_of_lt_of_le (Heap.lt_size e) (I.ok.cab x c hfn hc)))).trans (I.base.keep b o e n hb hx)
    · obtain ⟨sl, e1⟩ := I.base.slot b o e n hb hx
      exact ⟨sl, (hs.2 b (Nat.ne_of_lt (Nat.lt_of_lt_of_le (Heap.lt_size e) (I.ok.cab x c hfn hc)))).trans e1⟩
    · obtain ⟨o', e1⟩ := I.base.there b o e hx
      exact ⟨o', (hs.2 b (Nat.ne_of_lt (Nat.lt_of_lt_of_le (Heap.lt_size e) (I.ok.cab x c hfn hc)))).trans e1⟩
    · by_cases hj : j = i
      · subst hj
        rw [hi] at e1; cases e1
        rw [List.getElem?_set_self hiσ] at e2
        cases e2
        exact ⟨u, r, .inr ⟨.inl hk, c, hc, hc'⟩⟩
      · rw [List.getElem?_set_ne (Ne.symm hj)] at e2
        obtain ⟨u', r', q⟩ := hl j y v' e1 e2 e3
        refine ⟨u', r', ?_⟩
        rcases q with q | ⟨k, c', e, z'⟩
        · exact .inl q
        · refine .inr ⟨k, c', e, z'.sameBut hs ?_⟩
          rintro rfl
          exact hj (nodup_ix hN e1 (I.ok.inj _ _ _ e hc ▸ hi))
    · by_cases hcc : c' = c
      · subst hcc; exact ⟨_, hc'⟩
      · obtain ⟨w2, z2⟩ := I.cell y c' e
        exact ⟨w2, z2.sameBut hs hcc⟩
    · obtain ⟨e, n, ne, nf, d⟩ := I.pin p hp
      refine ⟨(hs.2 p.1 ?_).trans e, n, ne, nf, d⟩
      intro q
      rw [q, hoc] at e
      have q' : oc = p.2 := Option.some.inj e
      exact d w' (by rw [← q']; exact hocd)
theorem store_ok {M : Model} {A : Around} {E : Value → Shared → Prop} {i : Nat} {x : Str} {v : V} {u : Value} {Q : Unit → Shared → Prop} (I : Inv X pins σ H s) (hN : X.N.Nodup) (hi : X.N[i]? = some x) (hx : Loc X.env.scope x) (r : RelV v u)
    (h : ∀ s', Inv X pins (σ.set i (some v)) H s' → Q () s') (hf : X.fn x = true ∨ X.env.scope.names.lookup x = some .local := by first | exact .inl rfl | exact .inr rfl | assumption) : wpAny M A (storeName X.env x u) Q E s :=
  store_ok2 I hN hi hx r (fun s' I' _ => h s' I') hf
theorem Inv.call' {s' : Shared} {ch : List Addr} (I : Inv X pins σ H s) (ho : s'.os = s.os) (u : Un (frs X.stack) ch H H' s.heap s'.heap) (hok : HOk X.prog X.w H' s'.heap) (hg : AllBare s'.gens)
    (hch : ∀ b ∈ ch, (b ∈ X.ex ∨ X.s₀.heap.objs.size ≤ b) ∧ b ≠ X.env.locals ∧ (∀ x c, X.env.cells.lookup x = some c → c ≠ b) ∧ ∀ p ∈ X.pn ++ pins, p.1 ≠ b) : Inv X pins σ H' s' := by
  obtain ⟨h', g', d', t', o'⟩ := s'
  have e : o' = s.os := ho
  subst e
  exact I.call (g' := g') (t' := t') (d' := d') u hok hg hch
end
noncomputable abbrev XK := Value → Option Addr → Hp → Prop
noncomputable abbrev St := List (Option V)
noncomputable abbrev VK := V → Hp → Prop
noncomputable abbrev TE := St → Hp → VK → Prop
noncomputable abbrev TT := St → Hp → (Bool → Hp → Prop) → Prop
noncomputable abbrev TA := St → Hp → (List V → Hp → Prop) → Prop
structure Ends where
  nx : St → Hp → Prop
  rt : VK
  bk : St → Hp → Prop := fun _ _ => False
  ct : St → Hp → Prop := fun _ _ => False
noncomputable abbrev TS := Ends → St → Hp → Prop
noncomputable def EP (X : Cx) (pins : List (Addr × Obj)) (σ : St) (Q : VK) (u : Value) (s' : Shared) : Prop := ∃ v H', Inv X pins σ H' s' ∧ RelV v u ∧ Q v H'
noncomputable def TP (X : Cx) (pins : List (Addr × Obj)) (σ : St) (Q : Bool → Hp → Prop) (b : Bool) (s' : Shared) : Prop := ∃ H', Inv X pins σ H' s' ∧ Q b H'
noncomputable def AP (X : Cx) (pins : List (Addr × Obj)) (σ : St) (Q : List V → Hp → Prop) (us : List Value) (s' : Shared) : Prop := ∃ vs H', Inv X pins σ H' s' ∧ Vals vs us ∧ Q vs H'
noncomputable def SP (X : Cx) (pins : List (Addr × Obj)) (D : Ends) (f : Flow) (s' : Shared) : Prop :=
  match f with
  | .next => ∃ σ' H', Inv X pins σ' H' s' ∧ D.nx σ' H'
  | .brk => ∃ σ' H', Inv X pins σ' H' s' ∧ D.bk σ' H'
  | .cont => ∃ σ' H', Inv X pins σ' H' s' ∧ D.ct σ' H'
  | .ret u => ∃ v σ' H', Inv X pins σ' H' s' ∧ RelV v u ∧ D.rt v H'
noncomputable def PE (X : Cx) (e : Expr) (t : TE) : Prop :=
  ∀ (pins : List (Addr × Obj)) (s : Shared) (σ : St) (H : Hp) (Q : VK), Inv X pins σ H s → t σ H Q → wpAny (model X.prog X.w) X.A (eval e X.env) (EP X pins σ Q) X.xe s
noncomputable def PT (X : Cx) (e : Expr) (t : TT) : Prop :=
  ∀ (pins : List (Addr × Obj)) (s : Shared) (σ : St) (H : Hp) (Q : Bool → Hp → Prop), Inv X pins σ H s → t σ H Q → wpAny (model X.prog X.w) X.A (isTrue e X.env (eval e X.env)) (TP X pins σ Q) X.xe s
noncomputable def PW (X : Cx) (e : Expr) (t : TT) : Prop :=
  ∀ (whole : Sem Value) (pins : List (Addr × Obj)) (s : Shared) (σ : St) (H : Hp) (Q : Bool → Hp → Prop), Inv X pins σ H s → t σ H Q → wpAny (model X.prog X.w) X.A (isTrue e X.env whole) (TP X pins σ Q) X.xe s
theorem PW.pt {X : Cx} {e : Expr} {t : TT} (h : PW X e t) : PT X e t := h _
noncomputable def PA (X : Cx) (es : List Expr) (t : TA) : Prop :=
  ∀ (pos : Pos) (pins : List (Addr × Obj)) (s : Shared) (σ : St) (H : Hp) (Q : List V → Hp → Prop), Inv X pins σ H s → t σ H Q → wpAny (model X.prog X.w) X.A (spliced (backTo pos (starEach es X.env))) (AP X pins σ Q) X.xe s
noncomputable def PS (X : Cx) (st : Stmt) (t : TS) : Prop :=
  ∀ (pins : List (Addr × Obj)) (s : Shared) (σ : St) (H : Hp) (D : Ends), Inv X pins σ H s → t D σ H → wpAny (model X.prog X.w) X.A (exec st X.env) (SP X pins D) X.xe s
noncomputable def PSs (X : Cx) (st : List Stmt) (t : TS) : Prop :=
  ∀ (pins : List (Addr × Obj)) (s : Shared) (σ : St) (H : Hp) (D : Ends), Inv X pins σ H s → t D σ H → wpAny (model X.prog X.w) X.A (execs st X.env) (SP X pins D) X.xe s
theorem thn {α : Type} {t : Sem α} {Q Q' : α → Shared → Prop} {M : Model} {A : Around} {E : Value → Shared → Prop} {s : Shared} (h : wpAny M A t Q E s) (hQ : ∀ a s, Q a s → Q' a s) : wpAny M A t Q' E s := wpAny_mono h hQ fun _ _ x => x
end L2
namespace L2
open PySem PySem.Spec PyProof.Rows
section
variable {X : Cx}
noncomputable def tVar (i : Nat) : TE := fun σ H Q => ∃ v, σ[i]? = some (some v) ∧ Q v H
noncomputable def tC (v : V) : TE := fun _ H Q => Q v H
theorem pe_var {i : Nat} {x : Str} {pos : Pos} (hN : X.N[i]? = some x) (hv : Vis X.env.scope x) (hd : (x == ("__debug__" : Str)) = false := by decide) (hcd : (x == ("__classdict__" : Str)) = false := by decide) : PE X (.Name x pos) (tVar i) := by
  intro pins s σ H Q I h
  obtain ⟨v, e, h⟩ := h
  obtain ⟨m, hn, hl⟩ := I.loc
  obtain ⟨u, r, l⟩ := hl i x v hN e hv
  have fin : EP X pins σ Q u s := ⟨v, H, I, r, h⟩
  rcases l with ⟨hk, hm⟩ | ⟨hk, c, hc, hcell⟩
  · exact wpAny_Name (wpAny_loadName_local I.ok.kind hk hn hm fin) hd
  · rcases hk with hk | hk
    · exact wpAny_Name (wpAny_loadName_cell I.ok.kind hk hc hcell fin) hd
    · exact wpAny_Name (wpAny_loadName_free I.ok.kind hk hc hcell fin hcd) hd
theorem pe_int {i j pos} : PE X (.Constant (.int i) j pos) (tC (.int i)) := fun _ _ _ H _ I h => wpAny_Constant_int ⟨.int i, H, I.tok _, ⟨_, rfl⟩, h⟩
theorem pe_bl {b j pos} : PE X (.Constant (.bool b) j pos) (tC (.bl b)) := fun _ _ _ H _ I h => Constant_bool ⟨.bl b, H, I, rfl, h⟩
theorem pe_non {j pos} : PE X (.Constant .none j pos) (tC .non) := fun _ _ _ H _ I h => Constant_none ⟨.non, H, I, rfl, h⟩
theorem pe_str {x j pos} : PE X (.Constant (.str x) j pos) (tC (.str x)) := fun _ _ _ H _ I h => Calls.Constant_str ⟨.str x, H, I.tok _, ⟨_, rfl⟩, h⟩
noncomputable def Gl (X : Cx) (x : Str) : Prop := X.env.kindOf x = some .globalImplicit
theorem ld_glob {E : Value → Shared → Prop} {pins : List (Addr × Obj)} {s : Shared} {σ : St} {H : Hp} {x : Str} {u : Value} {pos : Pos} {Q : Value → Shared → Prop} (I : Inv X pins σ H s) (hg : Gl X x) (hm : X.mg x = some u) (h : Q u s)
    (hd : (x == ("__debug__" : Str)) = false := by decide) : wpAny (model X.prog X.w) X.A (eval (.Name x pos) X.env) Q E s :=
  Calls.Name_function_global I.ok.kind hg (Calls.loadGlobal_global (by rw [I.ok.glob]; exact I.mod.glob.keeps I.bk) hm h) hd
theorem ld_blt {E : Value → Shared → Prop} {pins : List (Addr × Obj)} {s : Shared} {σ : St} {H : Hp} {x : Str} {u : Value} {pos : Pos} {Q : Value → Shared → Prop} (I : Inv X pins σ H s) (hg : Gl X x) (hm : X.mg x = none) (hv : bootBuiltins x = some u) (h : Q u s)
    (hn : x ≠ "__name__" := by decide) (hd : (x == ("__debug__" : Str)) = false := by decide) : wpAny (model X.prog X.w) X.A (eval (.Name x pos) X.env) Q E s := by
  obtain ⟨mb, h1, h2⟩ := I.mod.blt
  exact Calls.Name_function_global I.ok.kind hg (Calls.loadGlobal_builtin (by rw [I.ok.glob]; exact I.mod.glob.keeps I.bk) hm (by rw [I.ok.blt]; exact h1.keeps I.bk) ((h2 x hn).trans hv) h) hd
theorem pe_glob {x : Str} {v : V} {u : Value} {pos : Pos} (hg : Gl X x) (hm : X.mg x = some u) (r : RelV v u) (hd : (x == ("__debug__" : Str)) = false := by decide) : PE X (.Name x pos) (tC v) :=
  fun _ _ _ H _ I h => ld_glob I hg hm ⟨v, H, I, r, h⟩ hd
theorem pe_bltn {x : Str} {v : V} {u : Value} {pos : Pos} (hg : Gl X x) (hm : X.mg x = none) (hv : bootBuiltins x = some u) (r : RelV v u) (hn : x ≠ "__name__" := by decide) (hd : (x == ("__debug__" : Str)) = false := by decide) : PE X (.Name x pos) (tC v) :=
  fun _ _ _ H _ I h => ld_blt I hg hm hv ⟨v, H, I, r, h⟩ hn hd
variable {a b : Expr} {ta tb : TE} {pos : Pos}
noncomputable def PC (X : Cx) (op : CmpOp) (a b : Expr) (t : TE) : Prop :=
  ∀ (pins : List (Addr × Obj)) (s : Shared) (σ : St) (H : Hp) (Q : VK), Inv X pins σ H s → t σ H Q →
    wpAny (model X.prog X.w) X.A (eval a X.env) (fun v s₁ => wpAny (model X.prog X.w) X.A (eval b X.env) (fun u s₂ => wpAny (model X.prog X.w) X.A (compareOp op v u) (EP X pins σ Q) X.xe s₂) X.xe s₁) X.xe s
noncomputable def tB (t : TE) : TT := fun σ H Q => t σ H fun x H1 => ∃ c, x = .bl c ∧ Q c H1
theorem pt_cmp {op : CmpOp} {t : TE} (h : PC X op a b t) (h1 : behindInMarks op b = false := by first | exact nobehind _ (by decide) (by decide) | rfl) : PT X (.Compare a [op] [b] pos) (tB t) := by
  intro pins s σ H Q I hw
  refine wpAny_isTrue_Compare1 (thn (h pins s σ H _ I hw) fun v s1 h1 => thn h1 fun u s2 h2 => thn h2 fun c s3 ⟨x, H1, I1, r1, q1⟩ => ?_) h1
  obtain ⟨d, rfl, q⟩ := q1
  cases r1
  exact wpAny_truthy_bool ⟨H1, I1, q⟩
theorem pt_val {e : Expr} {t : TE} (h : PE X e t) (he : ∀ whole, isTrue e X.env whole = (do let v ← whole; standAt e.pos; holding [v] (truthy v)) := by intro _; rfl) : PT X e (tB t) := by
  intro pins s σ H Q I hw
  refine isTrue_plain (thn (h pins s σ H _ I hw) fun v s1 ⟨x, H1, I1, r1, q1⟩ => ?_) (he _)
  obtain ⟨d, rfl, q⟩ := q1
  cases r1
  exact wpAny_truthy_bool ⟨H1, I1, q⟩
variable {tA tB' : TT} {rest : List Expr}
noncomputable def tAnd (t u : TT) : TT := fun σ H Q => t σ H fun c H1 => if c = true then u σ H1 Q else Q false H1
noncomputable def tOr (t u : TT) : TT := fun σ H Q => t σ H fun c H1 => if c = true then Q true H1 else u σ H1 Q
noncomputable def tNot (t : TT) : TT := fun σ H Q => t σ H fun c H1 => Q (!c) H1
theorem pw_and1 (ha : PT X a tA) : PW X (.BoolOp .And [a] pos) tA := by
  intro wh pins s σ H Q I h
  refine isTrue_and (thn (ha pins s σ H Q I h) fun c s1 e => ?_)
  cases c with
  | true => exact isTrue_and_nil e
  | false => exact e
theorem pw_or1 (ha : PT X a tA) : PW X (.BoolOp .Or [a] pos) tA := by
  intro wh pins s σ H Q I h
  refine isTrue_or (thn (ha pins s σ H Q I h) fun c s1 e => ?_)
  cases c with
  | false => exact isTrue_or_nil e
  | true => exact e
theorem pw_and (ha : PT X a tA) (hb : PW X (.BoolOp .And (b :: rest) pos) tB') : PW X (.BoolOp .And (a :: b :: rest) pos) (tAnd tA tB') := by
  intro wh pins s σ H Q I h
  refine isTrue_and (thn (ha pins s σ H _ I h) fun c s1 ⟨H1, I1, q1⟩ => ?_)
  cases c with
  | true => exact hb wh pins s1 σ H1 Q I1 q1
  | false => exact ⟨H1, I1, q1⟩
theorem pw_or (ha : PT X a tA) (hb : PW X (.BoolOp .Or (b :: rest) pos) tB') : PW X (.BoolOp .Or (a :: b :: rest) pos) (tOr tA tB') := by
  intro wh pins s σ H Q I h
  refine isTrue_or (thn (ha pins s σ H _ I h) fun c s1 ⟨H1, I1, q1⟩ => ?_)
  cases c with
  | true => exact ⟨H1, I1, q1⟩
  | false => exact hb wh pins s1 σ H1 Q I1 q1
theorem pt_not (ha : PT X a tA) : PT X (.UnaryOp .Not a pos) (tNot tA) := by
  intro pins s σ H Q I h
  exact isTrue_not (ha pins s σ H (fun c H1 => Q (!c) H1) I h)
end
end L2
namespace L2
open PySem PySem.Spec PyProof.Rows
noncomputable def SqL (K : PySem.W.Frag) (H : Hp) (a : Addr) (xs : List V) : Prop :=
  Rd H a (.lst xs) ∨
    ∃ (o : Obj) (its : Array Value) (n : Nat), K.lookup a = some o ∧ o.cls = .type "list" ∧ o.dict = none ∧ o.data = .seq its n ∧ its.size ≤ sizeLine ∧ Vals xs its.toList
noncomputable def SqT (K : PySem.W.Frag) (H : Hp) (a : Addr) (xs : List V) : Prop :=
  Rd H a (.tup xs) ∨
    ∃ (o : Obj) (its : Array Value) (n : Nat), K.lookup a = some o ∧ o.cls = .type "tuple" ∧ o.data = .seq its n ∧ its.size ≤ sizeLine ∧ Vals xs its.toList
noncomputable def absV : Value → Option V
  | .none => some .non
  | .bool b => some (.bl b)
  | .int i _ => some (.int i)
  | .str x _ => some (.str x)
  | .bytes b _ => some (.byt b)
  | .float b _ => some (.flt b)
  | .ref a => some (.ref a)
  | .type n => some (.ty n)
  | _ => none
theorem RelV.abs {x : V} {u : Value} (r : RelV x u) : absV u = some x := by
  cases x with
  | non => cases r; rfl
  | bl _ => cases r; rfl
  | int _ => obtain ⟨t, rfl⟩ := r; rfl
  | str _ => obtain ⟨t, rfl⟩ := r; rfl
  | byt _ => obtain ⟨t, rfl⟩ := r; rfl
  | flt _ => obtain ⟨t, rfl⟩ := r; rfl
  | ref _ => cases r; rfl
  | ty _ => cases r; rfl
theorem RelV.inj {x y : V} {u : Value} (r : RelV x u) (q : RelV y u) : x = y := Option.some.inj (r.abs.symm.trans q.abs)
theorem Vals.inj : ∀ {xs ys : List V} {us : List Value}, Vals xs us → Vals ys us → xs = ys
  | _, _, _, .nil, .nil => rfl
  | _, _, _, .cons r t, .cons r' t' => by rw [r.inj r', Vals.inj t t']
section
variable {X : Cx} {pins : List (Addr × Obj)} {σ : St} {H : Hp} {s : Shared} {a : Addr} {xs ys : List V}
theorem SqL.of {K : PySem.W.Frag} (h : H a = some (.lst xs)) : SqL K H a xs := .inl (.inl h)
theorem SqT.of {K : PySem.W.Frag} (h : H a = some (.tup xs)) : SqT K H a xs := .inl (.inl h)
theorem Inv.list (I : Inv X pins σ H s) (h : SqL X.K H a xs) : ∃ its : List Value, Vals xs its ∧ PlainL s.heap a its.toArray ∧ xs.length ≤ sizeLine := by
  rcases h with h | ⟨o, its, n, hk, hc, hd, hs, hz, r⟩
  · obtain ⟨z, its, n, r, e⟩ := h.ok I.hok
    exact ⟨its, r, ⟨_, n, e, rfl, rfl, rfl⟩, z⟩
  · refine ⟨its.toList, r, ⟨o, n, I.kIn a o hk, hc, hd, by simpa using hs⟩, ?_⟩
    have e := r.length
    simp only [Array.length_toList] at e
    omega
theorem Inv.tuple (I : Inv X pins σ H s) (h : SqT X.K H a xs) : ∃ its : List Value, Vals xs its ∧ IsTup s.heap a its.toArray ∧ xs.length ≤ sizeLine := by
  rcases h with h | ⟨o, its, n, hk, hc, hs, hz, r⟩
  · obtain ⟨z, its, r, p⟩ := h.ok I.hok
    exact ⟨its, r, p, z⟩
  · refine ⟨its.toList, r, ⟨o, I.kIn a o hk, hc, n, by simpa using hs⟩, ?_⟩
    have e := r.length
    simp only [Array.length_toList] at e
    omega
theorem Inv.list_inj (I : Inv X pins σ H s) (h : SqL X.K H a xs) (h' : SqL X.K H a ys) : xs = ys := by
  obtain ⟨its, r, ⟨o, n, e, _, _, d⟩, _⟩ := I.list h
  obtain ⟨its', r', ⟨o', n', e', _, _, d'⟩, _⟩ := I.list h'
  rw [e] at e'; cases e'
  rw [d] at d'
  injection d' with d1 _
  have : its = its' := by simpa using congrArg Array.toList d1
  subst this
  exact r.inj r'
theorem Inv.tuple_inj (I : Inv X pins σ H s) (h : SqT X.K H a xs) (h' : SqT X.K H a ys) : xs = ys := by
  obtain ⟨its, r, ⟨o, e, _, n, d⟩, _⟩ := I.tuple h
  obtain ⟨its', r', ⟨o', e', _, n', d'⟩, _⟩ := I.tuple h'
  rw [e] at e'; cases e'
  rw [d] at d'
  injection d' with d1 _
  have : its = its' := by simpa using congrArg Array.toList d1
  subst this
  exact r.inj r'
end
noncomputable abbrev Cx.wish (X : Cx) (E : Value → Shared → Prop) : Cx := { X with xe := E }
noncomputable abbrev Cx.nox (X : Cx) : Cx := X.wish fun _ _ => False
theorem Cx.Ok.wish {X : Cx} (ok : X.Ok) (E : Value → Shared → Prop) : (X.wish E).Ok :=
  ⟨ok.mod, ok.kind, ok.glob, ok.blt, ok.above, ok.inj, ok.has, ok.cab, ok.hd, ok.frames, ok.stk, ok.exf, ok.bs, ok.bsz, ok.noex, ok.exfs, ok.funs, ok.frf⟩
theorem Cx.Ok.unwish {X : Cx} {E : Value → Shared → Prop} (ok : (X.wish E).Ok) : X.Ok :=
  ⟨ok.mod, ok.kind, ok.glob, ok.blt, ok.above, ok.inj, ok.has, ok.cab, ok.hd, ok.frames, ok.stk, ok.exf, ok.bs, ok.bsz, ok.noex, ok.exfs, ok.funs, ok.frf⟩
section
variable {X : Cx} {pins : List (Addr × Obj)} {σ : St} {H : Hp} {s : Shared} {E : Value → Shared → Prop}
theorem Inv.wish (I : Inv X pins σ H s) (E : Value → Shared → Prop) : Inv (X.wish E) pins σ H s := ⟨I.ok.wish E, I.os, I.bare, I.base, I.loc, I.cell, I.free, I.freeC, I.pin, I.hok, I.len⟩
theorem Inv.unwish (I : Inv (X.wish E) pins σ H s) : Inv X pins σ H s := ⟨I.ok.unwish, I.os, I.bare, I.base, I.loc, I.cell, I.free, I.freeC, I.pin, I.hok, I.len⟩
theorem SP.unwish {D : Ends} {f : Flow} {s' : Shared} (h : SP (X.wish E) pins D f s') : SP X pins D f s' := by
  cases f with
  | next => obtain ⟨σ', H', I, q⟩ := h; exact ⟨σ', H', I.unwish, q⟩
  | brk => obtain ⟨σ', H', I, q⟩ := h; exact ⟨σ', H', I.unwish, q⟩
  | cont => obtain ⟨σ', H', I, q⟩ := h; exact ⟨σ', H', I.unwish, q⟩
  | ret u => obtain ⟨v, σ', H', I, r, q⟩ := h; exact ⟨v, σ', H', I.unwish, r, q⟩
theorem PSs.nox {st : List Stmt} {t : TS} (h : PSs X.nox st t) : PSs X st t := fun pins s σ H D I hw =>
  wpAny_mono (h pins s σ H D (I.wish _) hw) (fun _ _ q => q.unwish) fun _ _ z => False.elim z
end
section
variable {X : Cx} {st : Stmt} {rest : List Stmt} {t u : TS} {e : Expr} {te : TE} {pos : Pos}
noncomputable def tNext : TS := fun D σ H => D.nx σ H
noncomputable def tSeq (t u : TS) : TS := fun D σ H => t { D with nx := u D } σ H
theorem pss_nil : PSs X [] tNext := fun _ _ σ H _ I h => wpAny_execs_nil ⟨σ, H, I, h⟩
theorem pss_cons (h1 : PS X st t) (h2 : PSs X rest u) : PSs X (st :: rest) (tSeq t u) := by
  intro pins s σ H D I h
  refine wpAny_execs_cons (thn (h1 pins s σ H { D with nx := u D } I h) fun f s1 q => ?_)
  cases f with
  | next =>
    obtain ⟨σ', H', I', q⟩ := q
    exact h2 pins s1 σ' H' D I' q
  | ret v => exact q
  | brk => exact q
  | cont => exact q
theorem pss_one (h1 : PS X st t) : PSs X [st] t := by
  intro pins s σ H D I h
  refine wpAny_execs_cons (thn (h1 pins s σ H D I h) fun f s1 q => ?_)
  cases f with
  | next => exact wpAny_execs_nil q
  | ret v => exact q
  | brk => exact q
  | cont => exact q
theorem Inv.quiet {pins : List (Addr × Obj)} {σ : St} {H : Hp} {s : Shared} (I : Inv X pins σ H s) : interactive X.env = false := by simp [interactive, I.ok.kind]
noncomputable def tDrop (te : TE) : TS := fun D σ H => te σ H fun _ H1 => D.nx σ H1
theorem ps_expr (he : PE X e te) (hs : swapsWith e none pos.line X.env = pure false := by rfl) : PS X (.Expr e pos) (tDrop te) := by
  intro pins s σ H D I h
  exact wpAny_Expr_any (thn (he pins s σ H _ I h) fun v s1 ⟨x, H1, I1, r1, q1⟩ => ⟨σ, H1, I1, q1⟩) I.quiet hs
noncomputable def tRet (te : TE) : TS := fun D σ H => te σ H D.rt
theorem ps_ret (he : PE X e te) : PS X (.Return (some e) pos) (tRet te) := by
  intro pins s σ H D I h
  exact wpAny_Return_some (thn (he pins s σ H _ I h) fun v s1 ⟨x, H1, I1, r1, q1⟩ => ⟨x, σ, H1, I1, r1, q1⟩)
noncomputable def tIfS (c : TT) (t u : TS) : TS := fun D σ H => c σ H fun b H1 => if b = true then t D σ H1 else u D σ H1
theorem ps_if {c : Expr} {a b : List Stmt} {tc : TT} (hc : PT X c tc) (ha : PSs X a t) (hb : PSs X b u) : PS X (.If c a b pos) (tIfS tc t u) := by
  intro pins s σ H D I h
  refine wpAny_If (thn (hc pins s σ H _ I h) fun d s1 ⟨H1, I1, q1⟩ => ?_)
  cases d with
  | true => exact ha pins s1 σ H1 D I1 q1
  | false => exact hb pins s1 σ H1 D I1 q1
end
noncomputable abbrev TG := V → St → Hp → (St → Hp → Prop) → Prop
noncomputable abbrev TGs := List V → St → Hp → (St → Hp → Prop) → Prop
noncomputable def PG (X : Cx) (target : Expr) (t : TG) : Prop :=
  ∀ (pins : List (Addr × Obj)) (s : Shared) (σ : St) (H : Hp) (v : V) (u : Value) (Q : St → Hp → Prop), Inv X pins σ H s → RelV v u → t v σ H Q →
    wpAny (model X.prog X.w) X.A (assign target X.env u) (fun _ s' => ∃ σ' H', Inv X pins σ' H' s' ∧ Q σ' H') X.xe s
noncomputable def PGs (X : Cx) (ts : List Expr) (t : TGs) : Prop :=
  ∀ (pins : List (Addr × Obj)) (s : Shared) (σ : St) (H : Hp) (vs : List V) (us : List Value) (Q : St → Hp → Prop), Inv X pins σ H s → Vals vs us → t vs σ H Q →
    wpAny (model X.prog X.w) X.A (assignInOrder ((assignEach ts X.env).map (·.2)) us) (fun _ s' => ∃ σ' H', Inv X pins σ' H' s' ∧ Q σ' H') X.xe s
noncomputable abbrev TSet := V → V → V → Hp → (Hp → Prop) → Prop
noncomputable abbrev TIp := V → V → Hp → VK → Prop
section
variable {X : Cx} {pos : Pos}
noncomputable def gName (i : Nat) : TG := fun v σ H Q => Q (σ.set i (some v)) H
theorem pg_name {i : Nat} {x : Str} (hN : X.N.Nodup) (hi : X.N[i]? = some x) (hx : Loc X.env.scope x) (hf : X.fn x = true ∨ X.env.scope.names.lookup x = some .local := by first | exact .inl rfl | exact .inr rfl | assumption) : PG X (.Name x pos) (gName i) := by
  intro pins s σ H v u Q I r h
  exact wpAny_assign_Name (store_ok I hN hi hx r (fun s' I' => ⟨_, H, I', h⟩) hf)
noncomputable def gNil : TGs := fun vs σ H Q => vs = [] ∧ Q σ H
noncomputable def gCons (t : TG) (u : TGs) : TGs := fun vs σ H Q => ∃ v r, vs = v :: r ∧ t v σ H fun σ' H' => u r σ' H' Q
theorem pgs_nil : PGs X [] gNil := by
  intro pins s σ H vs us Q I r h
  obtain ⟨e, h⟩ := h
  subst e
  cases r
  exact assignInOrder_nil ⟨σ, H, I, h⟩
theorem pgs_cons {e : Expr} {es : List Expr} {t : TG} {u : TGs} (h1 : PG X e t) (h2 : PGs X es u)
    (hs : (assignEach (e :: es) X.env).map (·.2) = assign e X.env :: (assignEach es X.env).map (·.2) := by rfl) : PGs X (e :: es) (gCons t u) := by
  intro pins s σ H vs us Q I r h
  obtain ⟨v, vr, e1, h⟩ := h
  subst e1
  cases r with
  | cons r rr =>
    rw [hs]
    refine assignInOrder_cons (thn (h1 pins s σ H _ _ _ I r h) fun _ s1 ⟨σ1, H1, I1, q1⟩ => ?_)
    exact h2 pins s1 σ1 H1 _ _ Q I1 rr q1
noncomputable def gTup (K : PySem.W.Frag) (n : Nat) (t : TGs) : TG := fun v σ H Q => ∃ a xs, v = .ref a ∧ SqT K H a xs ∧ xs.length = n ∧ t xs σ H Q
theorem pg_tup {es : List Expr} {k : Nat} {t : TGs} {n : Nat} (hc : X.calm = true) (h : PGs X es t)
    (hn : (assignEach es X.env).length = n := by rfl) (hst : (assignEach es X.env).findIdx? (·.1) = none := by rfl) : PG X (.Tuple es k pos) (gTup X.K n t) := by
  intro pins s σ H v u Q I r hw
  obtain ⟨a, xs, e1, hq, hl, hw⟩ := hw
  subst e1
  cases r
  obtain ⟨its, rv, ht, hz⟩ := I.tuple hq
  refine assign_Tuple_tuple (I.ok.hd hc) ht (by simp [hn, ← hl, rv.length]) hst fun h' hx => ?_
  have I1 : Inv X pins σ H { s with heap := h' } := I.kept (t' := s.toks) fun b o e => hx b o (Nat.ne_of_lt (Heap.lt_size e)) e
  exact h pins _ σ H xs _ Q I1 (by simpa using rv) hw
noncomputable def tAsg (te : TE) (g : TG) : TS := fun D σ H => te σ H fun x H1 => g x σ H1 D.nx
theorem ps_asg {tg e : Expr} {te : TE} {g : TG} (he : PE X e te) (hg : PG X tg g) (hs : swapsWithSole [tg] e pos.line X.env = pure false := by rfl) (hw : swappedStores [tg] e X.env = pure none := by rfl)
    (h1 : (assignEach [tg] X.env).map (·.2) = [assign tg X.env] := by rfl) : PS X (.Assign [tg] e pos) (tAsg te g) := by
  intro pins s σ H D I h
  refine wpAny_Assign_stores (thn (he pins s σ H _ I h) fun v s1 ⟨x, H1, I1, r1, q1⟩ => ?_) hs hw
  rw [h1]
  exact thn (hg pins s1 σ H1 x v _ I1 r1 q1) fun _ s2 q => q
theorem ps_set {i : Nat} {x : Str} {e : Expr} {te : TE} {pos' : Pos} (hN : X.N.Nodup) (hi : X.N[i]? = some x) (hx : Loc X.env.scope x) (he : PE X e te) (hs : swapsWith e (some (.Name x pos')) pos.line X.env = pure false := by rfl) (hf : X.fn x = true ∨ X.env.scope.names.lookup x = some .local := by first | exact .inl rfl | exact .inr rfl | assumption) :
    PS X (.Assign [.Name x pos'] e pos) (tAsg te (gName i)) := by
  intro pins s σ H D I h
  refine wpAny_Assign_Name (thn (he pins s σ H _ I h) fun v s1 ⟨y, H1, I1, r1, q1⟩ => ?_) hs
  exact store_ok I1 hN hi hx r1 (fun s2 I2 => ⟨_, H1, I2, q1⟩) hf
end
section
variable {X : Cx} {pos : Pos}
noncomputable def tWhile (c : TT) (tb : TS) : TS := fun D σ H => ∃ W : Nat → St → Hp → Prop, (∃ m, W m σ H) ∧ ∀ m σ H, W m σ H →
  c σ H fun b H1 => if b = true then ∃ N : St → Hp → Prop, (∀ σ' H', N σ' H' → ∃ m', m' < m ∧ W m' σ' H') ∧ tb { D with nx := N, ct := N, bk := D.nx } σ H1 else D.nx σ H1
theorem ps_while {c : Expr} {body : List Stmt} {tc : TT} {tb : TS} (hp : PassesOwn (model X.prog X.w) X.A X.env X.xe) (hc : PT X c tc) (hb : PSs X body tb) : PS X (.While c body [] pos) (tWhile tc tb) := by
  intro pins s σ H D I h
  obtain ⟨W, ⟨m0, w0⟩, turn⟩ := h
  refine wpAny_While (codeAny_whileLoop (fun n s' => ∃ σ' H', Inv X pins σ' H' s' ∧ W n σ' H') ?_ m0 ⟨σ, H, I, w0⟩)
  rintro n s1 ⟨σ1, H1, I1, w1⟩
  refine wpAny_passesOwn hp (thn (hc pins s1 σ1 H1 _ I1 (turn n σ1 H1 w1)) fun b s2 ⟨H2, I2, q2⟩ => ?_)
  cases b with
  | true =>
    obtain ⟨N, hN, q2⟩ := q2
    rw [if_pos rfl]
    refine wpAny_passesOwn hp (thn (hb pins s2 σ1 H2 _ I2 q2) fun f s3 q3 => ?_)
    cases f with
    | next =>
      obtain ⟨σ3, H3, I3, n3⟩ := q3
      obtain ⟨m', hm, w3⟩ := hN σ3 H3 n3
      exact ⟨m', hm, σ3, H3, I3, w3⟩
    | cont =>
      obtain ⟨σ3, H3, I3, n3⟩ := q3
      obtain ⟨m', hm, w3⟩ := hN σ3 H3 n3
      exact ⟨m', hm, σ3, H3, I3, w3⟩
    | brk => exact q3
    | ret v => exact q3
  | false =>
    rw [if_neg Bool.false_ne_true]
    exact wpAny_execs_nil ⟨σ1, H2, I2, q2⟩
end
structure It where
  go : Nat → Hp → Prop
  yld : Nat → Hp → V → Hp → Prop
  stop : Nat → Hp → Prop
noncomputable def FpOk (X : Cx) (pins : List (Addr × Obj)) (H : Hp) (b : Addr) : Prop :=
  H b = none ∧ b ≠ X.env.locals ∧ b ∉ X.fs ∧ (b ∈ X.ex ∨ X.s₀.heap.objs.size ≤ b) ∧ (∀ x c, X.env.cells.lookup x = some c → c ≠ b) ∧ ∀ p ∈ X.pn ++ pins, p.1 ≠ b
theorem Inv.fpOk {X : Cx} {pins : List (Addr × Obj)} {σ : St} {H H' : Hp} {s : Shared} {b : Addr} (I : Inv X pins σ H s) (hb : s.heap.objs.size ≤ b) (hn : H' b = none) : FpOk X pins H' b := by
  refine ⟨hn, Nat.ne_of_gt (Nat.lt_of_lt_of_le I.lt hb), I.nofs hb, .inr (Nat.le_trans I.sz hb), fun x c e z => ?_, fun p hp z => ?_⟩
  · obtain ⟨v, q⟩ := I.cell x c e
    exact absurd (Nat.lt_of_lt_of_le q.lt (by rw [z]; exact hb)) (Nat.lt_irrefl _)
  · exact absurd (Nat.lt_of_lt_of_le (Heap.lt_size (I.pin p hp).1) (by rw [z]; exact hb)) (Nat.lt_irrefl _)
structure Turn (P : Program) (w : World) (K : PySem.W.Frag) (tg : Expr) (J : It) (fp : List Addr) (it : Addr) (tn : Nat → Heap → Prop) : Prop where
  mem : it ∈ fp
  obj : ∀ i h, tn i h → ∀ b ∈ fp, ∃ o, h.get? b = some o ∧ ∀ v, o.data ≠ .cell v
  keep : ∀ i h h', tn i h → (∀ b ∈ fp, ∀ o, h.get? b = some o → h'.get? b = some o) → tn i h'
  item : ∀ (X : Cx), X.prog = P → X.w = w → X.K = K → X.calm = true → ∀ (i : Nat) (pins : List (Addr × Obj)) (s : Shared) (σ : St) (H : Hp) (E : Value → Shared → Prop), Inv X pins σ H s → (∀ b ∈ fp, FpOk X pins H b) → tn i s.heap → J.go i H →
    wpAny (model P w) X.A (pyNext (.ref it)) (fun r s1 => ∃ u, r = some u ∧
      wpAny (model P w) X.A (letOwnedTupleGo tg (.ref it) u) (fun _ s2 => ∃ x H', Inv X pins σ H' s2 ∧ RelV x u ∧ J.yld i H x H' ∧ tn (i + 1) s2.heap ∧ ∀ b ∈ fp, H' b = none) E s1) E s
  done : ∀ (X : Cx), X.prog = P → X.w = w → X.K = K → X.calm = true → ∀ (i : Nat) (pins : List (Addr × Obj)) (s : Shared) (σ : St) (H : Hp) (E : Value → Shared → Prop), Inv X pins σ H s → (∀ b ∈ fp, FpOk X pins H b) → tn i s.heap → J.stop i H →
    wpAny (model P w) X.A (pyNext (.ref it)) (fun r s1 => r = none ∧ Inv X pins σ H s1) E s
  self : ∀ (A : Around) (i : Nat) (s : Shared) (Q : Value → Shared → Prop) (E : Value → Shared → Prop), tn i s.heap → Q (.ref it) s → wpAny (model P w) A (pyIter (.ref it)) Q E s
noncomputable abbrev TI := St → Hp → (It → Hp → Prop) → Prop
noncomputable def PIE (X : Cx) (pins : List (Addr × Obj)) (σ : St) (tg : Expr) (R : It → Hp → Prop) (itv : Value) (s2 : Shared) : Prop :=
  ∃ (it : Addr) (fp : List Addr) (tn : Nat → Heap → Prop) (J : It) (H' : Hp), itv = .ref it ∧ Inv X pins σ H' s2 ∧ Turn X.prog X.w X.K tg J fp it tn ∧ tn 0 s2.heap ∧ (∀ b ∈ fp, FpOk X pins H' b) ∧ R J H'
noncomputable def PI (X : Cx) (tg iter : Expr) (wi : TI) : Prop :=
  ∀ (pins : List (Addr × Obj)) (s : Shared) (σ : St) (H : Hp) (R : It → Hp → Prop), Inv X pins σ H s → wi σ H R →
    wpAny (model X.prog X.w) X.A (eval iter X.env) (fun v s1 => wpAny (model X.prog X.w) X.A (pyIter v) (PIE X pins σ tg R) X.xe s1) X.xe s
theorem go_of {M : Model} {A : Around} {E : Value → Shared → Prop} {s : Shared} {tg : Expr} {it : Addr} {u : Value} {o : Obj} {n : String} {vs : Array Value} {Q : Unit → Shared → Prop} (ho : s.heap.get? it = some o) (hc : o.cls = .type n) (hd : o.data = .fields vs)
    (hn : ["enumerate", "zip", "dict_itemiterator", "dict_reverseitemiterator", "odict_iterator", "itertools.zip_longest", "itertools.pairwise"].contains n = false) (hQ : Q () s) : wpAny M A (letOwnedTupleGo tg (.ref it) u) Q E s := by
  unfold letOwnedTupleGo
  cases tg <;> first
    | exact wpAny_pure hQ
    | (cases u <;> first
        | exact wpAny_pure hQ
        | (refine wpAny_bind (wpAny_load ho ?_)
           rw [hc, hd]
           show wpAny M A (if (["enumerate", "zip", "dict_itemiterator", "dict_reverseitemiterator", "odict_iterator", "itertools.zip_longest", "itertools.pairwise"].contains n && vs[0]? == some (rawInt _)) = true then _ else _) Q E s
           rw [if_neg (by intro h; rw [hn, Bool.false_and] at h; cases h)]
           exact wpAny_pure hQ))
noncomputable def Itl (K : PySem.W.Frag) (a : Addr) : It :=
  ⟨fun i H => ∃ xs x, SqL K H a xs ∧ xs[i]? = some x, fun i H x H' => H' = H ∧ ∀ xs, SqL K H a xs → xs[i]? = some x, fun i H => ∃ xs, SqL K H a xs ∧ xs.length ≤ i⟩
noncomputable def Itt (K : PySem.W.Frag) (a : Addr) : It :=
  ⟨fun i H => ∃ xs x, SqT K H a xs ∧ xs[i]? = some x, fun i H x H' => H' = H ∧ ∀ xs, SqT K H a xs → xs[i]? = some x, fun i H => ∃ xs, SqT K H a xs ∧ xs.length ≤ i⟩
noncomputable def Itr (lo : Int) (n : Nat) : It := ⟨fun i _ => i < n, fun i H x H' => H' = H ∧ x = .int (lo + i), fun i _ => n ≤ i⟩
theorem turn_list {P : Program} {w : World} {K : PySem.W.Frag} {tg : Expr} (a it : Addr) : Turn P w K tg (Itl K a) [it] it (fun i h => h.IsListIter it a i) where
  mem := by simp
  obj := fun i h st b hb => by
    have e : b = it := by simpa using hb
    subst e
    obtain ⟨o, e, c, d⟩ := st
    exact ⟨o, e, fun v z => by rw [d] at z; cases z⟩
  keep := fun i h h' st k => st.at fun o e => k it (by simp) o e
  item := by
    intro X hP hw hK hc i pins s σ H E I hf st hg
    subst hP hw hK
    obtain ⟨xs, x, hq, hx⟩ := hg
    obtain ⟨its, rv, p, hz⟩ := I.list hq
    obtain ⟨u, hu, ru⟩ := rv.get hx
    obtain ⟨f0, f1, f2, f3, f4, f5⟩ := hf it (by simp)
    refine wpAny_pyNext_list_item st p.isList (x := u) (by simpa using hu) fun h' st' sb => ?_
    have I1 : Inv X pins σ H { s with heap := h' } := I.turned (t' := s.toks) (fun b o hb e => (sb.2 b hb).trans e) f0 f1 f3 f4 f5
    obtain ⟨o, e, c, d⟩ := id st'
    exact ⟨u, rfl, go_of (s := { s with heap := h' }) e c d (by decide) ⟨x, H, I1, ru, ⟨rfl, fun ys hy => by rw [I.list_inj hy hq]; exact hx⟩, st', fun b hb => (hf b hb).1⟩⟩
  done := by
    intro X hP hw hK hc i pins s σ H E I hf st hg
    subst hP hw hK
    obtain ⟨xs, hq, hx⟩ := hg
    obtain ⟨its, rv, p, hz⟩ := I.list hq
    obtain ⟨f0, f1, f2, f3, f4, f5⟩ := hf it (by simp)
    have hl := rv.length
    exact wpAny_pyNext_list_end (I.ok.hd hc) st p.isList (by simp; omega) fun h' eb => ⟨rfl, I.turned (t' := s.toks) (fun b o hb e => eb b o hb e) f0 f1 f3 f4 f5⟩
  self := fun _ _ _ _ _ st h => wpAny_pyIter_listiter st h
theorem turn_tuple {P : Program} {w : World} {K : PySem.W.Frag} {tg : Expr} (a it : Addr) : Turn P w K tg (Itt K a) [it] it (fun i h => h.IsTupleIter it a i) where
  mem := by simp
  obj := fun i h st b hb => by
    have e : b = it := by simpa using hb
    subst e
    obtain ⟨o, e, c, d⟩ := st
    exact ⟨o, e, fun v z => by rw [d] at z; cases z⟩
  keep := fun i h h' st k => st.at fun o e => k it (by simp) o e
  item := by
    intro X hP hw hK hc i pins s σ H E I hf st hg
    subst hP hw hK
    obtain ⟨xs, x, hq, hx⟩ := hg
    obtain ⟨its, rv, p, hz⟩ := I.tuple hq
    obtain ⟨u, hu, ru⟩ := rv.get hx
    obtain ⟨f0, f1, f2, f3, f4, f5⟩ := hf it (by simp)
    refine wpAny_pyNext_tuple_item st (show s.heap.IsTuple a its.toArray from p) (x := u) (by simpa using hu) fun h' st' sb => ?_
    have I1 : Inv X pins σ H { s with heap := h' } := I.turned (t' := s.toks) (fun b o hb e => (sb.2 b hb).trans e) f0 f1 f3 f4 f5
    obtain ⟨o, e, c, d⟩ := id st'
    exact ⟨u, rfl, go_of (s := { s with heap := h' }) e c d (by decide) ⟨x, H, I1, ru, ⟨rfl, fun ys hy => by rw [I.tuple_inj hy hq]; exact hx⟩, st', fun b hb => (hf b hb).1⟩⟩
  done := by
    intro X hP hw hK hc i pins s σ H E I hf st hg
    subst hP hw hK
    obtain ⟨xs, hq, hx⟩ := hg
    obtain ⟨its, rv, p, hz⟩ := I.tuple hq
    obtain ⟨f0, f1, f2, f3, f4, f5⟩ := hf it (by simp)
    have hl := rv.length
    exact wpAny_pyNext_tuple_end (I.ok.hd hc) st (show s.heap.IsTuple a its.toArray from p) (by simp; omega) fun h' eb => ⟨rfl, I.turned (t' := s.toks) (fun b o hb e => eb b o hb e) f0 f1 f3 f4 f5⟩
  self := fun _ _ _ _ _ st h => wpAny_pyIter_tupleiter st h
theorem turn_range {P : Program} {w : World} {K : PySem.W.Frag} {tg : Expr} (it : Addr) (lo : Int) (n : Nat) : Turn P w K tg (Itr lo n) [it] it (fun i h => IsRangeIter h it (lo + (i : Nat) * 1) ((n : Int) - (i : Nat)) 1) where
  mem := by simp
  obj := fun i h st b hb => by
    have e : b = it := by simpa using hb
    subst e
    exact ⟨_, st, fun v z => by
      have z' : Data.fields _ = Data.cell v := z
      cases z'⟩
  keep := fun i h h' st k => k it (by simp) _ st
  item := by
    intro X hP hw hK hc i pins s σ H E I hf st hg
    subst hP hw hK
    obtain ⟨f0, f1, f2, f3, f4, f5⟩ := hf it (by simp)
    have W := Walks.range (prog := X.prog) (w := X.w) (I.ok.hd hc) it lo 1 n
    refine W.item i s _ _ hg st fun v h' tk hv st' kk => ?_
    obtain ⟨t, rfl⟩ := hv
    have I1 : Inv X pins σ H { s with heap := h', toks := tk } := I.turned (fun b o hb e => kk b o (by simpa using hb) e) f0 f1 f3 f4 f5
    refine ⟨_, rfl, go_of (s := { s with heap := h', toks := tk }) (n := "range_iterator") st' rfl rfl (by decide) ⟨.int (lo + i), H, I1, ⟨t, ?_⟩, ⟨rfl, rfl⟩, st', fun b hb => (hf b hb).1⟩⟩
    rw [Int.mul_one]
  done := by
    intro X hP hw hK hc i pins s σ H E I hf st hg
    subst hP hw hK
    obtain ⟨f0, f1, f2, f3, f4, f5⟩ := hf it (by simp)
    exact wpAny_pyNext_range_end (I.ok.hd hc) st (by have : n ≤ i := hg; omega) fun h' eb => ⟨rfl, I.turned (t' := s.toks) (fun b o hb e => eb b o hb e) f0 f1 f3 f4 f5⟩
  self := fun _ _ _ _ _ st h => wpAny_pyIter_rangeiter st h
end L2
namespace L2
open PySem PySem.Spec PyProof.Rows
section
variable {X : Cx} {tg : Expr}
noncomputable def iList (K : PySem.W.Frag) (tl : TE) : TI := fun σ H R => tl σ H fun x H1 => ∃ a, x = .ref a ∧ (∃ xs, SqL K H1 a xs) ∧ R (Itl K a) H1
noncomputable def iTup (K : PySem.W.Frag) (tl : TE) : TI := fun σ H R => tl σ H fun x H1 => ∃ a, x = .ref a ∧ (∃ xs, SqT K H1 a xs) ∧ R (Itt K a) H1
theorem pi_list {l : Expr} {tl : TE} (hl : PE X l tl) : PI X tg l (iList X.K tl) := by
  intro pins s σ H R I h
  refine thn (hl pins s σ H _ I h) fun v s1 ⟨x, H1, I1, r1, q1⟩ => ?_
  obtain ⟨a, e, ⟨xs, hq⟩, q⟩ := q1
  subst e
  cases r1
  obtain ⟨its, rv, p, hz⟩ := I1.list hq
  refine wpAny_pyIter_list p.isList ?_
  refine ⟨s1.heap.objs.size, [s1.heap.objs.size], _, _, H1, rfl, I1.kept (t' := s1.toks) fun b o e => Heap.get?_push_of_some _ e, turn_list a _, ⟨_, Heap.get?_push_size _ rfl, rfl, rfl⟩, fun b hb => ?_, q⟩
  have e : b = s1.heap.objs.size := by simpa using hb
  subst e
  exact I1.fpOk (Nat.le_refl _) (I1.hok.fresh (Nat.le_refl _))
theorem pi_tup {l : Expr} {tl : TE} (hl : PE X l tl) : PI X tg l (iTup X.K tl) := by
  intro pins s σ H R I h
  refine thn (hl pins s σ H _ I h) fun v s1 ⟨x, H1, I1, r1, q1⟩ => ?_
  obtain ⟨a, e, ⟨xs, hq⟩, q⟩ := q1
  subst e
  cases r1
  obtain ⟨its, rv, p, hz⟩ := I1.tuple hq
  refine wpAny_pyIter_tuple (show s1.heap.IsTuple a its.toArray from p) ?_
  refine ⟨s1.heap.objs.size, [s1.heap.objs.size], _, _, H1, rfl, I1.kept (t' := s1.toks) fun b o e => Heap.get?_push_of_some _ e, turn_tuple a _, ⟨_, Heap.get?_push_size _ rfl, rfl, rfl⟩, fun b hb => ?_, q⟩
  have e : b = s1.heap.objs.size := by simpa using hb
  subst e
  exact I1.fpOk (Nat.le_refl _) (I1.hok.fresh (Nat.le_refl _))
theorem range_it {pins : List (Addr × Obj)} {σ : St} {H : Hp} {s : Shared} {R : It → Hp → Prop} {E : Value → Shared → Prop} {lo hi : Int} {t u v : Tok} {tk : Nat} (I : Inv X pins σ H s) (h1 : -(2 ^ 62) ≤ lo) (h2 : lo < 2 ^ 62) (h3 : -(2 ^ 62) ≤ hi) (h4 : hi < 2 ^ 62)
    (q : R (Itr lo (hi - lo).toNat) H) : wpAny (model X.prog X.w) X.A (pyIter (.ref s.heap.objs.size)) (PIE X pins σ tg R) E { s with heap := s.heap.push { cls := .type "range", data := .fields #[.int lo t, .int hi u, .int 1 v] }, toks := tk } := by
  refine wpAny_pyIter_range (IsRange.new ..) (small_one h1 h2 h3 h4) ?_
  have I1 : Inv X pins σ H { s with heap := s.heap.push { cls := .type "range", data := .fields #[.int lo t, .int hi u, .int 1 v] }, toks := tk } := I.kept fun b o e => Heap.get?_push_of_some _ e
  refine ⟨(s.heap.push { cls := .type "range", data := .fields #[.int lo t, .int hi u, .int 1 v] }).objs.size, [(s.heap.push { cls := .type "range", data := .fields #[.int lo t, .int hi u, .int 1 v] }).objs.size], _, _, H, rfl,
    I1.kept (t' := tk) fun b o e => Heap.get?_push_of_some _ e, turn_range _ lo (hi - lo).toNat, ?_, fun b hb => ?_, q⟩
  · have e1 : lo + ((0 : Nat) : Int) * 1 = lo := by simp
    have e2 : (((hi - lo).toNat : Nat) : Int) - ((0 : Nat) : Int) = Builtin.Range.rangeSize lo hi 1 := by rw [rangeSize_one]; split <;> omega
    show IsRangeIter _ _ (lo + ((0 : Nat) : Int) * 1) ((((hi - lo).toNat : Nat) : Int) - ((0 : Nat) : Int)) 1
    rw [e1, e2]
    exact Heap.get?_push_size _ rfl
  · have e : b = (s.heap.push { cls := .type "range", data := .fields #[.int lo t, .int hi u, .int 1 v] }).objs.size := by simpa using hb
    subst e
    exact I1.fpOk (Nat.le_refl _) (I1.hok.fresh (Nat.le_refl _))
noncomputable def iRng1 (ta : TA) : TI := fun σ H R => ta σ H fun vs H1 => ∃ j : Int, vs = [.int j] ∧ -(2 ^ 62) ≤ j ∧ j < 2 ^ 62 ∧ R (Itr 0 j.toNat) H1
theorem pi_range1 {a : Expr} {ta : TA} {p pos : Pos} (hg : Gl X "range") (hm : X.mg "range" = none) (ha : PA X [a] ta) (hs : starEach [a] X.env = [(false, eval a X.env)] := by rfl) : PI X tg (.Call (.Name "range" p) [a] [] pos) (iRng1 ta) := by
  intro pins s σ H R I h
  refine Call_ (ld_blt I hg hm boot_range (PyProof.Rows.callWith_type1 (thn (ha pos pins s σ H _ I h) fun us s1 ⟨vs, H1, I1, r1, q1⟩ => ?_) hs rfl))
  obtain ⟨j, e, q1, q2, q⟩ := q1
  subst e
  cases r1 with
  | cons r rr =>
    cases rr
    obtain ⟨t, rfl⟩ := r
    exact call_range_1 (range_it I1 (by omega) (by omega) q1 q2 (by simpa using q))
noncomputable def tFor (wi : TI) (g : TG) (tb : TS) : TS := fun D σ H => wi σ H fun J H1 => ∃ W : Nat → Nat → St → Hp → Prop, (∃ m, W 0 m σ H1) ∧ ∀ i m σ H, W i m σ H →
  (J.stop i H ∧ D.nx σ H) ∨ (J.go i H ∧ ∃ N : St → Hp → Prop, (∀ σ' H', N σ' H' → ∃ m', m' < m ∧ W (i + 1) m' σ' H') ∧ ∀ x H', J.yld i H x H' → g x σ H' fun σ2 H2 => tb { D with nx := N, ct := N, bk := D.nx } σ2 H2)
noncomputable def pinsAt (fp : List Addr) (h : Heap) : List (Addr × Obj) := fp.filterMap fun b => (h.get? b).map fun o => (b, o)
theorem mem_pinsAt {fp : List Addr} {h : Heap} {b : Addr} {o : Obj} (hb : b ∈ fp) (e : h.get? b = some o) : (b, o) ∈ pinsAt fp h := List.mem_filterMap.mpr ⟨b, hb, by rw [e]; rfl⟩
theorem of_pinsAt {fp : List Addr} {h : Heap} {p : Addr × Obj} (hp : p ∈ pinsAt fp h) : p.1 ∈ fp ∧ h.get? p.1 = some p.2 := by
  obtain ⟨b, hb, e⟩ := List.mem_filterMap.mp hp
  cases q : h.get? b with
  | none => rw [q] at e; cases e
  | some o =>
    rw [q] at e
    have e' : (b, o) = p := Option.some.inj e
    subst e'
    exact ⟨hb, q⟩
theorem Inv.pinned {pins : List (Addr × Obj)} {σ : St} {H : Hp} {s : Shared} {fp : List Addr} (I : Inv X pins σ H s) (hf : ∀ b ∈ fp, FpOk X pins H b) (ho : ∀ b ∈ fp, ∃ o, s.heap.get? b = some o ∧ ∀ v, o.data ≠ .cell v) : Inv X (pins ++ pinsAt fp s.heap) σ H s :=
  I.pins_of fun p hp => (List.mem_append.mp hp).elim (fun z => I.pin p (List.mem_append_right _ z)) fun z => by
    obtain ⟨hb, e⟩ := of_pinsAt z
    obtain ⟨f0, f1, f2, _⟩ := hf p.1 hb
    obtain ⟨o, e', d⟩ := ho p.1 hb
    rw [e] at e'; cases e'
    exact ⟨e, f0, f1, f2, d⟩
theorem Inv.unpinned {pins pl : List (Addr × Obj)} {σ : St} {H : Hp} {s : Shared} (I : Inv X (pins ++ pl) σ H s) : Inv X pins σ H s := I.pins_of fun p hp => I.pin p (List.mem_append_right _ (List.mem_append_left _ hp))
theorem ps_for {iter : Expr} {body : List Stmt} {wi : TI} {g : TG} {tb : TS} {pos : Pos} (hp : PassesOwn (model X.prog X.w) X.A X.env X.xe) (hc : X.calm = true) (hi : PI X tg iter wi) (hg : PG X tg g) (hb : PSs X body tb)
    (hs : ∀ x, foldedSetIterable iter X.env x = pure x := by intro _; rfl) : PS X (.For tg iter body [] pos) (tFor wi g tb) := by
  intro pins s σ H D I h
  refine wpAny_For (thn (hi pins s σ H _ I h) fun v s1 h1 => thn h1 fun itv s2 h2 => ?_) hs
  obtain ⟨it, fp, tn, J, H2, e, I2, T, st2, f2, W, ⟨m0, w0⟩, turn⟩ := h2
  subst e
  have stat : ∀ {H' : Hp}, (∀ b ∈ fp, H' b = none) → ∀ b ∈ fp, FpOk X pins H' b := fun hn b hb => ⟨hn b hb, (f2 b hb).2⟩
  refine codeAny_forLoop_any (fun n s' => ∃ i σ' H', Inv X pins σ' H' s' ∧ tn i s'.heap ∧ (∀ b ∈ fp, H' b = none) ∧ W i n σ' H') ?_ m0 ⟨0, σ, H2, I2, st2, fun b hb => (f2 b hb).1, w0⟩
  rintro n s3 ⟨i, σ3, H3, I3, st3, fr3, w3⟩
  rcases turn i n σ3 H3 w3 with ⟨stop, qn⟩ | ⟨go, N, hN, step⟩
  · refine wpAny_passesOwn hp (thn (T.done X rfl rfl rfl hc i pins s3 σ3 H3 X.xe I3 (stat fr3) st3 stop) fun r s4 ⟨hr, I4⟩ => ?_)
    subst hr
    exact wpAny_execs_nil ⟨σ3, H3, I4, qn⟩
  · refine wpAny_passesOwn hp (thn (T.item X rfl rfl rfl hc i pins s3 σ3 H3 X.xe I3 (stat fr3) st3 go) fun r s4 ⟨u, hr, h4⟩ => ?_)
    subst hr
    refine wpAny_passesOwn hp (thn h4 fun _ s5 ⟨x, H5, I5, r5, y5, st5, fr5⟩ => ?_)
    have I5' := I5.pinned (stat fr5) (T.obj _ _ st5)
    refine wpAny_passesOwn hp (thn (hg _ s5 σ3 H5 x u _ I5' r5 (step x H5 y5)) fun _ s6 ⟨σ6, H6, I6, q6⟩ => ?_)
    refine wpAny_passesOwn hp (thn (hb _ s6 σ6 H6 _ I6 q6) fun f s7 q7 => ?_)
    have again : ∀ {σ7 : St} {H7 : Hp}, Inv X (pins ++ pinsAt fp s5.heap) σ7 H7 s7 → N σ7 H7 → ∃ m, m < n ∧ ∃ i σ' H', Inv X pins σ' H' s7 ∧ tn i s7.heap ∧ (∀ b ∈ fp, H' b = none) ∧ W i m σ' H' := fun {σ7 H7} I7 n7 => by
      obtain ⟨m', hm, w7⟩ := hN σ7 H7 n7
      refine ⟨m', hm, i + 1, σ7, H7, I7.unpinned, T.keep _ _ _ st5 fun b hb o e => (I7.pin (b, o) (List.mem_append_right _ (List.mem_append_right _ (mem_pinsAt hb e)))).1, fun b hb => ?_, w7⟩
      obtain ⟨o, e, d⟩ := T.obj _ _ st5 b hb
      exact (I7.pin (b, o) (List.mem_append_right _ (List.mem_append_right _ (mem_pinsAt hb e)))).2.1
    cases f with
    | next => obtain ⟨σ7, H7, I7, n7⟩ := q7; exact again I7 n7
    | cont => obtain ⟨σ7, H7, I7, n7⟩ := q7; exact again I7 n7
    | brk => obtain ⟨σ7, H7, I7, q7⟩ := q7; exact ⟨σ7, H7, I7.unpinned, q7⟩
    | ret v => obtain ⟨x7, σ7, H7, I7, r7, q7⟩ := q7; exact ⟨x7, σ7, H7, I7.unpinned, r7, q7⟩
end
theorem for_list {K : PySem.W.Frag} {a : Addr} {xs : List V} {g : TG} {tb : TS} {D : Ends} {σ : St} {H : Hp} (Pv : Nat → St → Hp → Prop) (h0 : Pv 0 σ H) (hl : ∀ i σ H, i ≤ xs.length → Pv i σ H → SqL K H a xs)
    (hs : ∀ i x σ H, xs[i]? = some x → Pv i σ H → g x σ H fun σ2 H2 => tb { D with nx := Pv (i + 1), ct := Pv (i + 1), bk := D.nx } σ2 H2) (hd : ∀ σ H, Pv xs.length σ H → D.nx σ H) :
    ∃ W : Nat → Nat → St → Hp → Prop, (∃ m, W 0 m σ H) ∧ ∀ i m σ H, W i m σ H →
      ((Itl K a).stop i H ∧ D.nx σ H) ∨ ((Itl K a).go i H ∧ ∃ N : St → Hp → Prop, (∀ σ' H', N σ' H' → ∃ m', m' < m ∧ W (i + 1) m' σ' H') ∧ ∀ x H', (Itl K a).yld i H x H' → g x σ H' fun σ2 H2 => tb { D with nx := N, ct := N, bk := D.nx } σ2 H2) := by
  refine ⟨fun i m σ H => m = xs.length - i ∧ i ≤ xs.length ∧ Pv i σ H, ⟨xs.length, by simp, Nat.zero_le _, h0⟩, ?_⟩
  rintro i m σ H ⟨rfl, hi, p⟩
  have q := hl i σ H hi p
  by_cases hlt : i < xs.length
  · refine .inr ⟨⟨xs, xs[i], q, by simp [hlt]⟩, Pv (i + 1), fun σ' H' p' => ⟨xs.length - (i + 1), by omega, rfl, hlt, p'⟩, fun x H' y => ?_⟩
    obtain ⟨e, y⟩ := y
    subst e
    exact hs i x σ _ (y xs q) p
  · have e : i = xs.length := by omega
    subst e
    exact .inl ⟨⟨xs, q, Nat.le_refl _⟩, hd σ H p⟩
theorem for_tup {K : PySem.W.Frag} {a : Addr} {xs : List V} {g : TG} {tb : TS} {D : Ends} {σ : St} {H : Hp} (Pv : Nat → St → Hp → Prop) (h0 : Pv 0 σ H) (hl : ∀ i σ H, i ≤ xs.length → Pv i σ H → SqT K H a xs)
    (hs : ∀ i x σ H, xs[i]? = some x → Pv i σ H → g x σ H fun σ2 H2 => tb { D with nx := Pv (i + 1), ct := Pv (i + 1), bk := D.nx } σ2 H2) (hd : ∀ σ H, Pv xs.length σ H → D.nx σ H) :
    ∃ W : Nat → Nat → St → Hp → Prop, (∃ m, W 0 m σ H) ∧ ∀ i m σ H, W i m σ H →
      ((Itt K a).stop i H ∧ D.nx σ H) ∨ ((Itt K a).go i H ∧ ∃ N : St → Hp → Prop, (∀ σ' H', N σ' H' → ∃ m', m' < m ∧ W (i + 1) m' σ' H') ∧ ∀ x H', (Itt K a).yld i H x H' → g x σ H' fun σ2 H2 => tb { D with nx := N, ct := N, bk := D.nx } σ2 H2) := by
  refine ⟨fun i m σ H => m = xs.length - i ∧ i ≤ xs.length ∧ Pv i σ H, ⟨xs.length, by simp, Nat.zero_le _, h0⟩, ?_⟩
  rintro i m σ H ⟨rfl, hi, p⟩
  have q := hl i σ H hi p
  by_cases hlt : i < xs.length
  · refine .inr ⟨⟨xs, xs[i], q, by simp [hlt]⟩, Pv (i + 1), fun σ' H' p' => ⟨xs.length - (i + 1), by omega, rfl, hlt, p'⟩, fun x H' y => ?_⟩
    obtain ⟨e, y⟩ := y
    subst e
    exact hs i x σ _ (y xs q) p
  · have e : i = xs.length := by omega
    subst e
    exact .inl ⟨⟨xs, q, Nat.le_refl _⟩, hd σ H p⟩
theorem for_range {lo : Int} {n : Nat} {g : TG} {tb : TS} {D : Ends} {σ : St} {H : Hp} (Pv : Nat → St → Hp → Prop) (h0 : Pv 0 σ H)
    (hs : ∀ i σ H, i < n → Pv i σ H → g (.int (lo + i)) σ H fun σ2 H2 => tb { D with nx := Pv (i + 1), ct := Pv (i + 1), bk := D.nx } σ2 H2) (hd : ∀ σ H, Pv n σ H → D.nx σ H) :
    ∃ W : Nat → Nat → St → Hp → Prop, (∃ m, W 0 m σ H) ∧ ∀ i m σ H, W i m σ H →
      ((Itr lo n).stop i H ∧ D.nx σ H) ∨ ((Itr lo n).go i H ∧ ∃ N : St → Hp → Prop, (∀ σ' H', N σ' H' → ∃ m', m' < m ∧ W (i + 1) m' σ' H') ∧ ∀ x H', (Itr lo n).yld i H x H' → g x σ H' fun σ2 H2 => tb { D with nx := N, ct := N, bk := D.nx } σ2 H2) := by
  refine ⟨fun i m σ H => m = n - i ∧ i ≤ n ∧ Pv i σ H, ⟨n, by simp, Nat.zero_le _, h0⟩, ?_⟩
  rintro i m σ H ⟨rfl, hi, p⟩
  by_cases hlt : i < n
  · refine .inr ⟨hlt, Pv (i + 1), fun σ' H' p' => ⟨n - (i + 1), by omega, rfl, hlt, p'⟩, fun x H' y => ?_⟩
    obtain ⟨e, y⟩ := y
    subst e y
    exact hs i σ _ hlt p
  · have e : i = n := by omega
    subst e
    exact .inl ⟨Nat.le_refl _, hd σ H p⟩
theorem while_by {c : TT} {tb : TS} {D : Ends} {σ : St} {H : Hp} (Pv : St → Hp → Prop) (μ : St → Hp → Nat) (h0 : Pv σ H)
    (hs : ∀ σ H, Pv σ H → c σ H fun b H1 => if b = true then tb { D with nx := fun σ' H' => Pv σ' H' ∧ μ σ' H' < μ σ H, ct := fun σ' H' => Pv σ' H' ∧ μ σ' H' < μ σ H, bk := D.nx } σ H1 else D.nx σ H1)
    (mono : ∀ σ H Q Q', (∀ b H1, Q b H1 → Q' b H1) → c σ H Q → c σ H Q') : tWhile c tb D σ H := by
  refine ⟨fun m σ H => m = μ σ H ∧ Pv σ H, ⟨_, rfl, h0⟩, ?_⟩
  rintro m σ H ⟨rfl, p⟩
  refine mono σ H _ _ (fun b H1 q => ?_) (hs σ H p)
  cases b with
  | true => exact ⟨_, fun σ' H' ⟨p', l⟩ => ⟨_, l, rfl, p'⟩, q⟩
  | false => exact q
end L2
namespace L2
open PySem PySem.Spec PyProof.Rows
noncomputable abbrev R2 := V → V → Hp → VK → Prop
noncomputable def OpR (X : Cx) (f : Value → Value → Sem Value) (r : R2) : Prop :=
  ∀ (pins : List (Addr × Obj)) (s : Shared) (σ : St) (H : Hp) (x y : V) (v u : Value) (Q : VK), Inv X pins σ H s → RelV x v → RelV y u → r x y H Q →
    wpAny (model X.prog X.w) X.A (f v u) (EP X pins σ Q) X.xe s
noncomputable def UnR (X : Cx) (f : Value → Sem Value) (r : V → Hp → VK → Prop) : Prop :=
  ∀ (pins : List (Addr × Obj)) (s : Shared) (σ : St) (H : Hp) (x : V) (v : Value) (Q : VK), Inv X pins σ H s → RelV x v → r x H Q →
    wpAny (model X.prog X.w) X.A (f v) (EP X pins σ Q) X.xe s
noncomputable def CallR (X : Cx) (f : Value) (r : List V → Hp → VK → Prop) : Prop :=
  ∀ (pins : List (Addr × Obj)) (s : Shared) (σ : St) (H : Hp) (xs : List V) (us : List Value) (Q : VK), Inv X pins σ H s → Vals xs us → r xs H Q →
    wpAny (model X.prog X.w) X.A (call f us) (EP X pins σ Q) X.xe s
noncomputable def TruR (X : Cx) (r : V → Hp → (Bool → Hp → Prop) → Prop) : Prop :=
  ∀ (pins : List (Addr × Obj)) (s : Shared) (σ : St) (H : Hp) (x : V) (v : Value) (Q : Bool → Hp → Prop), Inv X pins σ H s → RelV x v → r x H Q →
    wpAny (model X.prog X.w) X.A (truthy v) (TP X pins σ Q) X.xe s
noncomputable def tOp (r : R2) (ta tb : TE) : TE := fun σ H Q => ta σ H fun x H1 => tb σ H1 fun y H2 => r x y H2 Q
noncomputable def tUn (r : V → Hp → VK → Prop) (ta : TE) : TE := fun σ H Q => ta σ H fun x H1 => r x H1 Q
noncomputable def rI (C : Int → Int → Prop) (g : Int → Int → V) : R2 := fun x y H Q => ∃ i j, x = .int i ∧ y = .int j ∧ C i j ∧ Q (g i j) H
noncomputable def rI0 (g : Int → Int → V) : R2 := fun x y H Q => ∃ i j, x = .int i ∧ y = .int j ∧ Q (g i j) H
noncomputable def rU (g : Int → V) : V → Hp → VK → Prop := fun x H Q => ∃ i, x = .int i ∧ Q (g i) H
section
variable {X : Cx} {a b c : Expr} {ta tb tc : TE} {pos : Pos}
theorem binT (ha : PE X a ta) (hb : PE X b tb) {pins : List (Addr × Obj)} {s : Shared} {σ : St} {H : Hp} {R : V → V → Hp → Prop} (I : Inv X pins σ H s)
    (h : ta σ H fun x H1 => tb σ H1 fun y H2 => R x y H2) {Q : Value → Shared → Prop} {f : Value → Value → Sem Value}
    (hf : ∀ v u s2 x y H2, Inv X pins σ H2 s2 → RelV x v → RelV y u → R x y H2 → wpAny (model X.prog X.w) X.A (f v u) Q X.xe s2) :
    wpAny (model X.prog X.w) X.A (eval a X.env) (fun v s₁ => wpAny (model X.prog X.w) X.A (eval b X.env) (fun u s₂ => wpAny (model X.prog X.w) X.A (f v u) Q X.xe s₂) X.xe s₁) X.xe s := by
  refine thn (ha pins s σ H _ I h) fun v s1 ⟨x, H1, I1, r1, q1⟩ => ?_
  refine thn (hb pins s1 σ H1 _ I1 q1) fun u s2 ⟨y, H2, I2, r2, q2⟩ => ?_
  exact hf v u s2 x y H2 I2 r1 r2 q2
theorem pe_op {op : Operator} {r : R2} (ho : OpR X (binaryOp op) r) (ha : PE X a ta) (hb : PE X b tb) : PE X (.BinOp a op b pos) (tOp r ta tb) := by
  intro pins s σ H Q I h
  exact wpAny_BinOp (binT ha hb I h fun v u s2 x y H2 I2 rx ry q => ho pins s2 σ H2 x y v u Q I2 rx ry q)
theorem pe_un {op : UnaryOp} {r : V → Hp → VK → Prop} (ho : UnR X (unaryOp op) r) (ha : PE X a ta) : PE X (.UnaryOp op a pos) (tUn r ta) := by
  intro pins s σ H Q I h
  exact UnaryOp_ (thn (ha pins s σ H _ I h) fun v s1 ⟨x, H1, I1, r1, q1⟩ => ho pins s1 σ H1 x v Q I1 r1 q1)
theorem opI {f : Value → Value → Sem Value} {C : Int → Int → Prop} {g : Int → Int → Int}
    (rule : ∀ (i j : Int) (t u : Tok) (s : Shared) (Q : Value → Shared → Prop) (E : Value → Shared → Prop), C i j → Q (.int (g i j) s.toks) { s with toks := s.toks + 1 } → wpAny (model X.prog X.w) X.A (f (.int i t) (.int j u)) Q E s) :
    OpR X f (rI C fun i j => .int (g i j)) := by
  intro pins s σ H x y v u Q I rx ry h
  obtain ⟨i, j, rfl, rfl, hc, q⟩ := h
  obtain ⟨t, rfl⟩ := rx
  obtain ⟨t', rfl⟩ := ry
  exact rule i j t t' s _ _ hc ⟨.int (g i j), H, I.tok _, ⟨_, rfl⟩, q⟩
theorem opI0 {f : Value → Value → Sem Value} {g : Int → Int → Int}
    (rule : ∀ (i j : Int) (t u : Tok) (s : Shared) (Q : Value → Shared → Prop) (E : Value → Shared → Prop), Q (.int (g i j) s.toks) { s with toks := s.toks + 1 } → wpAny (model X.prog X.w) X.A (f (.int i t) (.int j u)) Q E s) :
    OpR X f (rI0 fun i j => .int (g i j)) := by
  intro pins s σ H x y v u Q I rx ry h
  obtain ⟨i, j, rfl, rfl, q⟩ := h
  obtain ⟨t, rfl⟩ := rx
  obtain ⟨t', rfl⟩ := ry
  exact rule i j t t' s _ _ ⟨.int (g i j), H, I.tok _, ⟨_, rfl⟩, q⟩
theorem opB0 {f : Value → Value → Sem Value} {g : Int → Int → Bool}
    (rule : ∀ (i j : Int) (t u : Tok) (s : Shared) (Q : Value → Shared → Prop) (E : Value → Shared → Prop), Q (.bool (g i j)) s → wpAny (model X.prog X.w) X.A (f (.int i t) (.int j u)) Q E s) :
    OpR X f (rI0 fun i j => .bl (g i j)) := by
  intro pins s σ H x y v u Q I rx ry h
  obtain ⟨i, j, rfl, rfl, q⟩ := h
  obtain ⟨t, rfl⟩ := rx
  obtain ⟨t', rfl⟩ := ry
  exact rule i j t t' s _ _ ⟨.bl (g i j), H, I, rfl, q⟩
noncomputable def CDiv (i j : Int) : Prop := 0 < j ∧ j < 1073741824
noncomputable def CPow (i j : Int) : Prop := 0 ≤ j ∧ j ≤ 1000000 ∧ i.natAbs < 2 ^ 64
noncomputable def CMul (i j : Int) : Prop := (-(2 ^ 64) < i ∧ i < 2 ^ 64) ∨ (-(2 ^ 64) < j ∧ j < 2 ^ 64)
theorem CMul.ok {i j : Int} (h : CMul i j) : IntMulOk i j := by
  rcases h with ⟨h1, h2⟩ | ⟨h1, h2⟩
  · exact .of_left (intBits_le_64 h1 h2)
  · exact .of_right (intBits_le_64 h1 h2)
theorem op_add : OpR X (binaryOp .Add) (rI0 fun i j => .int (i + j)) := opI0 fun _ _ _ _ _ _ _ q => add_int q
theorem op_sub : OpR X (binaryOp .Sub) (rI0 fun i j => .int (i - j)) := opI0 fun _ _ _ _ _ _ _ q => sub_int q
theorem op_mul : OpR X (binaryOp .Mult) (rI CMul fun i j => .int (i * j)) := opI fun _ _ _ _ _ _ _ hc q => mul_int q hc.ok
theorem op_fdiv : OpR X (binaryOp .FloorDiv) (rI CDiv fun i j => .int (i / j)) := opI fun i j _ _ _ _ _ hc q => by
  have h1 : (0 : Int) < j := hc.1
  have h2 : j < 1073741824 := hc.2
  exact floordiv_int (by omega) (by rw [Int.fdiv_eq_ediv_of_nonneg i (by omega)]; exact q) (.inl (PyProof.noPylong_small (by omega)))
theorem op_mod : OpR X (binaryOp .Mod) (rI (fun _ j => 0 < j) fun i j => .int (i % j)) := opI fun i j _ _ _ _ _ hc q => by
  have h1 : (0 : Int) < j := hc
  exact mod_int' (by omega) (by rw [Int.fmod_eq_emod_of_nonneg i (by omega)]; exact q)
theorem op_pow : OpR X (binaryOp .Pow) (rI CPow fun i j => .int (i ^ j.toNat)) := opI fun _ _ _ _ _ _ _ hc q => pow_int_small hc.1 hc.2.1 hc.2.2 q
theorem unI {f : Value → Sem Value} {g : Int → Int}
    (rule : ∀ (i : Int) (t : Tok) (s : Shared) (Q : Value → Shared → Prop) (E : Value → Shared → Prop), Q (.int (g i) s.toks) { s with toks := s.toks + 1 } → wpAny (model X.prog X.w) X.A (f (.int i t)) Q E s) :
    UnR X f (rU fun i => .int (g i)) := by
  intro pins s σ H x v Q I rx h
  obtain ⟨i, rfl, q⟩ := h
  obtain ⟨t, rfl⟩ := rx
  exact rule i t s _ _ ⟨.int (g i), H, I.tok _, ⟨_, rfl⟩, q⟩
theorem un_neg : UnR X (unaryOp .USub) (rU fun i => .int (-i)) := unI fun _ _ _ _ _ q => neg_int q
end
noncomputable def scal : V → V → Bool
  | .non, .non => true | .non, .int _ => true | .int _, .non => true | .non, .bl _ => true | .bl _, .non => true | .non, .str _ => true | .str _, .non => true
  | .int _, .int _ => true | .bl _, .bl _ => true | .str _, .str _ => true | .byt _, .byt _ => true
  | .int _, .str _ => true | .str _, .int _ => true | .bl _, .str _ => true | .str _, .bl _ => true
  | _, _ => false
noncomputable def rEq : R2 := fun x y H Q => scal x y = true ∧ Q (.bl (decide (x = y))) H
noncomputable def rNe : R2 := fun x y H Q => scal x y = true ∧ Q (.bl (!decide (x = y))) H
theorem dec_int {i j : Int} : decide (V.int i = V.int j) = (i == j) := by
  rw [Bool.eq_iff_iff]
  simp
theorem dec_bl {i j : Bool} : decide (V.bl i = V.bl j) = (i == j) := by
  rw [Bool.eq_iff_iff]
  simp
theorem dec_str {i j : Str} : decide (V.str i = V.str j) = (i == j) := by
  rw [Bool.eq_iff_iff]
  simp
theorem dec_byt {i j : Array UInt8} : decide (V.byt i = V.byt j) = (i.toList == j.toList) := by
  rw [Bool.eq_iff_iff]
  cases i
  cases j
  simp
section
variable {X : Cx} {a b c : Expr} {ta tb tc : TE} {pos : Pos}
theorem fin_bl {pins : List (Addr × Obj)} {σ : St} {H : Hp} {s : Shared} {Q : VK} {k k' : Bool} (I : Inv X pins σ H s) (q : Q (.bl k) H) (e : k = k') : EP X pins σ Q (.bool k') s := by
  subst e
  exact ⟨.bl k, H, I, rfl, q⟩
theorem op_eq : OpR X (compareOp .Eq) rEq := by
  intro pins s σ H x y v u Q I rx ry h
  obtain ⟨hs, q⟩ := h
  cases x with
  | non =>
    cases rx
    cases y with
    | non => cases ry; exact PySem.EqNone.eq_none_none (fin_bl I q (by simp))
    | bl j => cases ry; exact PySem.EqNone.eq_none_bool (fin_bl I q (by simp))
    | int j => obtain ⟨t', rfl⟩ := ry; exact PySem.EqNone.eq_none_int (fin_bl I q (by simp))
    | str j => obtain ⟨t', rfl⟩ := ry; exact PySem.EqNone.eq_none_str (fin_bl I q (by simp))
    | _ => exact absurd (show false = true from hs) Bool.false_ne_true
  | bl i =>
    cases rx
    cases y with
    | non => cases ry; exact PySem.EqNone.eq_bool_none (fin_bl I q (by simp))
    | bl j => cases ry; exact eq_bool (fin_bl I q dec_bl)
    | str j => obtain ⟨t', rfl⟩ := ry; exact PySem.EqMixed.eq_bool_str (fin_bl I q (by simp))
    | _ => exact absurd (show false = true from hs) Bool.false_ne_true
  | int i =>
    obtain ⟨t, rfl⟩ := rx
    cases y with
    | non => cases ry; exact PySem.EqNone.eq_int_none (fin_bl I q (by simp))
    | int j => obtain ⟨t', rfl⟩ := ry; exact eq_int (fin_bl I q dec_int)
    | str j => obtain ⟨t', rfl⟩ := ry; exact PySem.EqMixed.eq_int_str (fin_bl I q (by simp))
    | _ => exact absurd (show false = true from hs) Bool.false_ne_true
  | str i =>
    obtain ⟨t, rfl⟩ := rx
    cases y with
    | non => cases ry; exact PySem.EqNone.eq_str_none (fin_bl I q (by simp))
    | bl j => cases ry; exact PySem.EqMixed.eq_str_bool (fin_bl I q (by simp))
    | int j => obtain ⟨t', rfl⟩ := ry; exact PySem.EqMixed.eq_str_int (fin_bl I q (by simp))
    | str j => obtain ⟨t', rfl⟩ := ry; exact eq_str (fin_bl I q dec_str)
    | _ => exact absurd (show false = true from hs) Bool.false_ne_true
  | byt i =>
    obtain ⟨t, rfl⟩ := rx
    cases y with
    | byt j => obtain ⟨t', rfl⟩ := ry; exact PySem.W.eq_bytes (fin_bl I q dec_byt)
    | _ => exact absurd (show false = true from hs) Bool.false_ne_true
  | _ => cases y <;> exact absurd (show false = true from hs) Bool.false_ne_true
theorem op_ne : OpR X (compareOp .NotEq) rNe := by
  intro pins s σ H x y v u Q I rx ry h
  obtain ⟨hs, q⟩ := h
  cases x with
  | non =>
    cases rx
    cases y with
    | non => cases ry; exact PySem.EqNone.ne_none_none (fin_bl I q (by simp))
    | bl j => cases ry; exact PySem.EqNone.ne_none_bool (fin_bl I q (by simp))
    | int j => obtain ⟨t', rfl⟩ := ry; exact PySem.EqNone.ne_none_int (fin_bl I q (by simp))
    | str j => obtain ⟨t', rfl⟩ := ry; exact PySem.EqNone.ne_none_str (fin_bl I q (by simp))
    | _ => exact absurd (show false = true from hs) Bool.false_ne_true
  | bl i =>
    cases rx
    cases y with
    | non => cases ry; exact PySem.EqNone.ne_bool_none (fin_bl I q (by simp))
    | bl j => cases ry; exact ne_bool (fin_bl I q (congrArg not dec_bl))
    | str j => obtain ⟨t', rfl⟩ := ry; exact PySem.EqMixed.ne_bool_str (fin_bl I q (by simp))
    | _ => exact absurd (show false = true from hs) Bool.false_ne_true
  | int i =>
    obtain ⟨t, rfl⟩ := rx
    cases y with
    | non => cases ry; exact PySem.EqNone.ne_int_none (fin_bl I q (by simp))
    | int j => obtain ⟨t', rfl⟩ := ry; exact ne_int (fin_bl I q (congrArg not dec_int))
    | str j => obtain ⟨t', rfl⟩ := ry; exact PySem.EqMixed.ne_int_str (fin_bl I q (by simp))
    | _ => exact absurd (show false = true from hs) Bool.false_ne_true
  | str i =>
    obtain ⟨t, rfl⟩ := rx
    cases y with
    | non => cases ry; exact PySem.EqNone.ne_str_none (fin_bl I q (by simp))
    | bl j => cases ry; exact PySem.EqMixed.ne_str_bool (fin_bl I q (by simp))
    | int j => obtain ⟨t', rfl⟩ := ry; exact PySem.EqMixed.ne_str_int (fin_bl I q (by simp))
    | str j => obtain ⟨t', rfl⟩ := ry; exact ne_str (fin_bl I q (congrArg not dec_str))
    | _ => exact absurd (show false = true from hs) Bool.false_ne_true
  | byt i =>
    obtain ⟨t, rfl⟩ := rx
    cases y with
    | byt j => obtain ⟨t', rfl⟩ := ry; exact PySem.W.ne_bytes (fin_bl I q (congrArg not dec_byt))
    | _ => exact absurd (show false = true from hs) Bool.false_ne_true
  | _ => cases y <;> exact absurd (show false = true from hs) Bool.false_ne_true
theorem op_lt : OpR X (compareOp .Lt) (rI0 fun i j => .bl (decide (i < j))) := opB0 fun _ _ _ _ _ _ _ q => lt_int q
theorem op_gt : OpR X (compareOp .Gt) (rI0 fun i j => .bl (decide (j < i))) := opB0 fun _ _ _ _ _ _ _ q => gt_int q
theorem nomark (b : Expr) {op : CmpOp} (h : op ≠ .In := by decide) (h2 : op ≠ .NotIn := by decide) : behindInMarks op b = false := by
  have e1 : (op == CmpOp.In) = false := by cases op <;> first | rfl | exact absurd rfl h
  have e2 : (op == CmpOp.NotIn) = false := by cases op <;> first | rfl | exact absurd rfl h2
  cases b <;> simp [behindInMarks, e1, e2]
theorem pe_cmpR {op : CmpOp} {r : R2} (ho : OpR X (compareOp op) r) (ha : PE X a ta) (hb : PE X b tb) (hm : behindInMarks op b = false) : PE X (.Compare a [op] [b] pos) (tOp r ta tb) := by
  intro pins s σ H Q I h
  exact wpAny_Compare1 (binT ha hb I h fun v u s2 x y H2 I2 rx ry q => ho pins s2 σ H2 x y v u Q I2 rx ry q) hm
noncomputable def tTest (t : TE) : TT := fun σ H Q => t σ H fun x H' => ∃ k, x = .bl k ∧ Q k H'
theorem pt_cmpR {op : CmpOp} {r : R2} (ho : OpR X (compareOp op) r) (ha : PE X a ta) (hb : PE X b tb) (hm : behindInMarks op b = false) : PT X (.Compare a [op] [b] pos) (tTest (tOp r ta tb)) := by
  intro pins s σ H Q I h
  refine wpAny_isTrue_Compare1 (thn (ha pins s σ H _ I h) fun v s1 ⟨x, H1, I1, r1, q1⟩ => thn (hb pins s1 σ H1 _ I1 q1) fun u s2 ⟨y, H2, I2, r2, q2⟩ =>
    thn (ho pins s2 σ H2 x y v u _ I2 r1 r2 q2) fun c s3 ⟨z, H3, I3, r3, k, e, q3⟩ => ?_) hm
  subst e
  cases r3
  exact wpAny_truthy_bool ⟨H3, I3, q3⟩
noncomputable def TruV (K : PySem.W.Frag) (x : V) (H : Hp) (k : Bool) : Prop :=
  match x with
  | .non => k = false
  | .bl b => k = b
  | .int i => k = (i != 0)
  | .str y => y.length ≤ sizeLine ∧ k = ((y.length : Int) != 0)
  | .byt y => y.size ≤ sizeLine ∧ k = ((y.size : Int) != 0)
  | .ref p => (∃ xs, SqL K H p xs ∧ k = !xs.isEmpty) ∨ (∃ xs, SqT K H p xs ∧ k = !xs.isEmpty) ∨ ∃ kvs, H p = some (.dK kvs) ∧ k = !kvs.isEmpty
  | _ => False
theorem isEmpty_kv {κ : Type} {kvs : List (κ × V)} {vs : List (κ × Value)} (r : KV kvs vs) : (!vs.isEmpty) = !kvs.isEmpty := by
  cases r <;> rfl
theorem isEmpty_of {xs : List V} {its : List Value} (r : Vals xs its) : (!its.toArray.isEmpty) = !xs.isEmpty := by
  cases r <;> simp
theorem line63 : (sizeLine : Nat) < 2 ^ 63 := by rw [sizeLine_eq]; decide
theorem tru_ok : TruR X (fun x H Q => ∃ k, TruV X.K x H k ∧ Q k H) := by
  intro pins s σ H x v Q I rx h
  obtain ⟨k, e, q⟩ := h
  have hl := line63
  have hs : sizeLine = 16777216 := sizeLine_eq
  cases x with
  | non =>
    cases rx
    have e' : k = false := e
    subst e'
    exact truthy_none ⟨H, I, q⟩
  | bl b =>
    cases rx
    have e' : k = b := e
    subst e'
    exact wpAny_truthy_bool ⟨H, I, q⟩
  | int i =>
    obtain ⟨t, rfl⟩ := rx
    have e' : k = (i != 0) := e
    subst e'
    exact PySem.P.truthy_int ⟨H, I, q⟩
  | str y =>
    obtain ⟨t, rfl⟩ := rx
    obtain ⟨hy, e'⟩ : y.length ≤ sizeLine ∧ k = ((y.length : Int) != 0) := e
    subst e'
    exact PySem.P.truthy_str (by omega) ⟨H, I.tok _, q⟩
  | byt y =>
    obtain ⟨t, rfl⟩ := rx
    obtain ⟨hy, e'⟩ : y.size ≤ sizeLine ∧ k = ((y.size : Int) != 0) := e
    subst e'
    exact PySem.W.truthy_bytes (by omega) ⟨H, I.tok _, q⟩
  | ref p =>
    cases rx
    have e' : (∃ xs, SqL X.K H p xs ∧ k = !xs.isEmpty) ∨ (∃ xs, SqT X.K H p xs ∧ k = !xs.isEmpty) ∨ ∃ kvs, H p = some (.dK kvs) ∧ k = !kvs.isEmpty := e
    rcases e' with ⟨xs, hx, e'⟩ | ⟨xs, hx, e'⟩ | ⟨kvs, hx, e'⟩
    · subst e'
      obtain ⟨its, r, pl, hz⟩ := I.list hx
      have hlen := r.length
      exact wpAny_truthy_list pl.isList (by simp only [List.size_toArray]; omega) ⟨H, I.tok _, by rw [isEmpty_of r]; exact q⟩
    · subst e'
      obtain ⟨its, r, pl, hz⟩ := I.tuple hx
      have hlen := r.length
      exact truthy_tuple pl (by simp only [List.size_toArray]; omega) ⟨H, I.tok _, by rw [isEmpty_of r]; exact q⟩
    · subst e'
      obtain ⟨hz, hS, vs, r, m⟩ : kvs.length ≤ sizeLine ∧ (p == sysModules) = false ∧ ∃ vs, KV kvs vs ∧ s.heap.DictOf (mixKind X.prog X.w) p vs := I.hok p _ hx
      have hlen : kvs.length = vs.length := Paired.length r
      exact wpAny_truthy_dict hS m (by omega) ⟨H, I.tok _, by rw [isEmpty_kv r]; exact q⟩
  | _ => exact (show False from e).elim
theorem pt_truth (ha : PE X a ta) (he : ∀ whole, isTrue a X.env whole = (do let v ← whole; standAt a.pos; holding [v] (truthy v))) :
    PT X a (fun σ H Q => ta σ H fun x H' => ∃ k, TruV X.K x H' k ∧ Q k H') := by
  intro pins s σ H Q I h
  exact isTrue_plain (thn (ha pins s σ H _ I h) fun v s1 ⟨x, H1, I1, r1, q1⟩ => tru_ok pins s1 σ H1 x v Q I1 r1 q1) (he _)
theorem op_add_str : OpR X (binaryOp .Add) (fun x y H Q => ∃ i j, x = .str i ∧ y = .str j ∧ i.length + j.length ≤ sizeLine ∧ Q (.str (i ++ j)) H) := by
  intro pins s σ H x y v u Q I rx ry h
  obtain ⟨i, j, rfl, rfl, hz, q⟩ := h
  obtain ⟨t, rfl⟩ := rx
  obtain ⟨t', rfl⟩ := ry
  exact add_str (fun t' tk => ⟨.str (i ++ j), H, I.tok _, ⟨_, rfl⟩, q⟩) hz
theorem vals1 {x : V} {us : List Value} (r : Vals [x] us) : ∃ u, us = [u] ∧ RelV x u := by
  cases r with
  | cons r1 r2 => cases r2; exact ⟨_, rfl, r1⟩
theorem vals2 {x y : V} {us : List Value} (r : Vals [x, y] us) : ∃ u w', us = [u, w'] ∧ RelV x u ∧ RelV y w' := by
  cases r with
  | cons r1 r2 =>
    cases r2 with
    | cons r3 r4 => cases r4; exact ⟨_, _, rfl, r1, r3⟩
theorem call_max2 (hc : X.calm = true) : CallR X (.builtin "max") (fun xs H Q => ∃ i j, xs = [.int i, .int j] ∧ Q (.int (if j > i then j else i)) H) := by
  intro pins s σ H xs us Q I r h
  obtain ⟨i, j, rfl, q⟩ := h
  obtain ⟨u, w', rfl, ⟨t, rfl⟩, ⟨t', rfl⟩⟩ := vals2 r
  refine max_two_ints (I.ok.hd hc) fun h' tk k => ⟨_, H, I.kept k, ?_, q⟩
  by_cases hj : j > i
  · rw [if_pos hj, if_pos hj]; exact ⟨_, rfl⟩
  · rw [if_neg hj, if_neg hj]; exact ⟨_, rfl⟩
end
end L2
namespace L2
open PySem PySem.Spec PyProof.Rows
structure ObjM (h : Heap) (x dx C : Addr) (mA : Str → Option Value) : Prop where
  obj : h.get? x = some (PySem.W.instObj C dx)
  ns : h.Ns1 dx mA
  ne : dx ≠ x
theorem lookIn_ns {h : Heap} {dx : Addr} {mA : Str → Option Value} (n : h.Ns1 dx mA) : ∃ od, h.get? dx = some od ∧ ∀ name, PySem.W.lookIn name od = some (mA name) := by
  obtain ⟨o, es, ep, ho, hd, hk, _, hm⟩ := n
  refine ⟨o, ho, fun name => ?_⟩
  have e := hm name
  unfold nsFind findBy at e
  rw [← Array.find?_toList] at e
  unfold PySem.W.lookIn
  rw [hd]
  dsimp only
  split
  · rename_i y q
    rw [q] at e
    exact congrArg some e
  · rename_i q
    rw [q] at e
    have a : es.toList.any (·.refKey) = false := by
      rw [List.any_eq_false]
      intro y hy
      obtain ⟨z, t, hkey⟩ := hk y (Array.mem_toList_iff.mp hy)
      simp [DictEntry.refKey, hkey]
    have a' : ¬ es.toList.any (·.refKey) = true := by rw [a]; exact Bool.false_ne_true
    rw [if_neg a']
    exact congrArg some e
theorem ObjM.look {h : Heap} {x dx C : Addr} {mA : Str → Option Value} (I : ObjM h x dx C mA) : ∃ od, PySem.W.InstAt h x (PySem.W.instObj C dx) C (some od) ∧ ∀ name, PySem.W.lookIn name od = some (mA name) :=
  let ⟨od, ho, hl⟩ := lookIn_ns I.ns
  ⟨od, ⟨I.obj, rfl, rfl, ho⟩, hl⟩
section
variable {prog : Program} {w : World} {A : Around} {E : Value → Shared → Prop} {s : Shared} {K : PySem.W.Frag} {x dx C f : Addr} {mA : Str → Option Value} {name : Str} {v : Value}
theorem get_map {expr : Bool} {Q : Value → Shared → Prop} (X : K.In s.heap) (I : ObjM s.heap x dx C mA) (hg : PySem.W.plainGet K C name = true) (hh : PySem.W.hasDictIn K C = true)
    (ha : PySem.W.findIn K (.ref C) name = some none) (hv : mA name = some v) (hv' : PySem.W.handedIn v = true) (h : Q v { s with toks := s.toks + 1 }) :
    wpAny (model prog w) A (getAttr (.ref x) name expr) Q E s := by
  obtain ⟨od, J, hl⟩ := I.look
  exact PySem.W.get_value X J (PySem.W.plainGet_of hg).1 (PySem.W.findObj_own hh ha rfl (by rw [hl, hv])) hv' h
theorem get_meth {pl : Sem Bool} {Q : Value × List Value → Shared → Prop} (X : K.In s.heap) (I : ObjM s.heap x dx C mA) (hg : PySem.W.plainGet K C name = true)
    (hf : PySem.W.findIn K (.ref C) name = some (some (.ref f))) (ht : PySem.W.isFn K (.ref f) = true) (hv : mA name = none) (h : Q (.ref f, [.ref x]) s) :
    wpAny (model prog w) A (getMethod (.ref x) name pl) Q E s := by
  obtain ⟨od, J, hl⟩ := I.look
  exact PySem.W.method_fn X J (PySem.W.plainGet_of hg).1 (PySem.W.plainGet_of hg).2 hf (beq_iff_eq.mp ht) (by show (PySem.W.lookIn name od).map (·.isSome) = some false; rw [hl, hv]; rfl) h
theorem set_map {ns : List Str} {Q : Unit → Shared → Prop} (X : K.In s.heap) (I : ObjM s.heap x dx C mA)
    (hs : PySem.W.findIn K (.ref C) "__setattr__" = some (some (.builtin "object.__setattr__"))) (hp : PySem.W.plainOver K C = true) (ht : PySem.W.takerIn K C name = some none) (hh : PySem.W.hasDictIn K C = true)
    (hw : PySem.Within mA ns) (hsz : ns.length ≤ sizeLine)
    (h : ∀ h', ObjM h' x dx C (fun y => if y = name then some v else mA y) → Heap.SameBut dx s.heap h' → Q () { s with heap := h', toks := s.toks + 2 }) :
    wpAny (model prog w) A (setAttr (.ref x) name v) Q E s := by
  obtain ⟨od, J, hl⟩ := I.look
  refine PySem.W.set_plain X J hs (PySem.W.osa_open (s := { s with toks := s.toks + 1 }) (r := none) X J hp ht fun b => ?_)
  obtain ⟨cd, hc, hd'⟩ := PySem.W.any_some hh
  have hx : s.heap.get? x = some ⟨.ref C, some dx, .plain, #[]⟩ := I.obj
  refine wpAny_bind (wpAny_pure (wpAny_bind (wpAny_bind (wpAny_loadPart hx (wpAny_bind (PySem.W.Looks.here (s := { s with toks := s.toks + 1 }) (PySem.W.looks_clsIn X hc) ?_))))))
  rw [hd']
  refine wpAny_pure (a := some dx) (wpAny_bind (wpAny_pure (wpAny_bind ?_)))
  refine wpAny_nsSet1 (s := { s with toks := s.toks + 1 }) I.ns fun h' hn2 hs2 => ?_
  obtain ⟨oD, esD, epD, hoD, hdD, hcD⟩ := hn2.count (PySem.Within.cons name v hw)
  refine wpAny_bind (wpAny_lookBehind hoD (by rw [hdD]; exact pastItsLine_dict (Nat.le_trans hcD (by rw [List.length_cons]; omega))) ?_)
  exact wpAny_pure (h _ ⟨(hs2.2 _ (Ne.symm I.ne)).trans I.obj, hn2, I.ne⟩ hs2)
theorem make_map {R : Result → Shared → Prop} {vs : List Value} {kw : List (Str × Value)} (X : K.In s.heap) (hm : PySem.W.makesIn K C = true)
    (hi : PySem.W.findIn K (.ref C) "__init__" = some (some (.ref f))) (hf : PySem.W.typeIn K (.ref f) = some (.type "function"))
    (h : codeAny (model prog w) (A.under (.builtin "type.__call__" ⟨.ref C :: vs, kw⟩)) (.call (.ref f) ⟨.ref (s.heap.objs.size + 1) :: vs, kw⟩) (PySem.W.InitBack (s.heap.objs.size + 1) R)
      { s with heap := (s.heap.push PySem.W.emptyDict).push (PySem.W.instObj C s.heap.objs.size) }) :
    codeAny (model prog w) A (.call (.ref C) ⟨vs, kw⟩) R s := by
  obtain ⟨hh, g, d, t, os⟩ := s
  exact PySem.W.make_core (PySem.W.makes_of X hm) (PySem.W.looks_findIn X hi) (fun self => PySem.W.bind_fn X self hf) (.inl rfl) h
end
noncomputable def putF (f : Str) (v : V) : List (Str × V) → List (Str × V)
  | [] => [(f, v)]
  | (g, x) :: r => if g = f then (g, v) :: r else (g, x) :: putF f v r
theorem lookup_putF (f g : Str) (v : V) : ∀ fs : List (Str × V), (putF f v fs).lookup g = if g = f then some v else fs.lookup g
  | [] => by
    show List.lookup g [(f, v)] = _
    by_cases h : g = f
    · have hb : (g == f) = true := beq_iff_eq.mpr h
      simp only [List.lookup, hb, if_pos h]
    · have hb : (g == f) = false := beq_eq_false_iff_ne.mpr h
      simp only [List.lookup, hb, if_neg h]
  | (k, x) :: r => by
    have ih := lookup_putF f g v r
    rw [show putF f v ((k, x) :: r) = (if k = f then (k, v) :: r else (k, x) :: putF f v r) from rfl]
    by_cases hk : k = f
    · rw [if_pos hk]
      by_cases h : g = k
      · have hb : (g == k) = true := beq_iff_eq.mpr h
        simp only [List.lookup, hb, if_pos (h.trans hk)]
      · have hb : (g == k) = false := beq_eq_false_iff_ne.mpr h
        simp only [List.lookup, hb, if_neg (fun e : g = f => h (e.trans hk.symm))]
    · rw [if_neg hk]
      by_cases h : g = k
      · have hb : (g == k) = true := beq_iff_eq.mpr h
        simp only [List.lookup, hb, if_neg (fun e : g = f => hk (h.symm.trans e))]
      · have hb : (g == k) = false := beq_eq_false_iff_ne.mpr h
        simp only [List.lookup, hb]
        exact ih
theorem keys_putF (f : Str) (v : V) : ∀ fs : List (Str × V), f ∈ (putF f v fs).map (·.1) ∧ ∀ g, g ∈ fs.map (·.1) → g ∈ (putF f v fs).map (·.1)
  | [] => ⟨by simp [putF], fun g h => by simp at h⟩
  | (k, x) :: r => by
    obtain ⟨i1, i2⟩ := keys_putF f v r
    rw [show putF f v ((k, x) :: r) = (if k = f then (k, v) :: r else (k, x) :: putF f v r) from rfl]
    by_cases hk : k = f
    · rw [if_pos hk]
      subst hk
      exact ⟨by simp, fun g h => by simpa using h⟩
    · rw [if_neg hk]
      refine ⟨?_, fun g h => ?_⟩
      · rw [List.map_cons]
        exact List.mem_cons_of_mem _ i1
      · rw [List.map_cons] at h ⊢
        rcases List.mem_cons.mp h with e | e
        · exact List.mem_cons.mpr (.inl e)
        · exact List.mem_cons_of_mem _ (i2 g e)
theorem length_putF (f : Str) (v : V) : ∀ fs : List (Str × V), (putF f v fs).length ≤ fs.length + 1
  | [] => by simp [putF]
  | (k, x) :: r => by
    have ih := length_putF f v r
    rw [show putF f v ((k, x) :: r) = (if k = f then (k, v) :: r else (k, x) :: putF f v r) from rfl]
    by_cases hk : k = f
    · rw [if_pos hk, List.length_cons, List.length_cons]; omega
    · rw [if_neg hk, List.length_cons, List.length_cons]; omega
theorem RelO.some_of {v : V} {o : Option Value} (r : RelO (some v) o) : ∃ u, o = some u ∧ RelV v u := by
  cases o with
  | none => exact (show False from r).elim
  | some u => exact ⟨u, rfl, r⟩
theorem RelO.none_of {o : Option Value} (r : RelO none o) : o = none := by
  cases o with
  | none => rfl
  | some u => exact (show False from r).elim
theorem handed_of {v : V} {u : Value} (r : RelV v u) : PySem.W.handedIn u = true := by
  cases v with
  | non => cases (show u = Value.none from r); rfl
  | bl b => cases (show u = Value.bool b from r); rfl
  | int i => obtain ⟨t, e⟩ := (show ∃ t, u = Value.int i t from r); cases e; rfl
  | str x => obtain ⟨t, e⟩ := (show ∃ t, u = Value.str x t from r); cases e; rfl
  | byt b => obtain ⟨t, e⟩ := (show ∃ t, u = Value.bytes b t from r); cases e; rfl
  | flt b => obtain ⟨t, e⟩ := (show ∃ t, u = Value.float b t from r); cases e; rfl
  | ref a => cases (show u = Value.ref a from r); rfl
  | ty n => cases (show u = Value.type n from r); rfl
section
variable {P : Program} {w : World} {H H' : Hp} {h h' : Heap} {a C dx : Addr} {fs fs' : List (Str × V)}
theorem ins_get (hok : HOk P w H h) (e : H a = some (.ins C dx fs)) : ∃ mA, ObjM h a dx C mA ∧ (∀ f, RelO (fs.lookup f) (mA f)) ∧ PySem.Within mA (fs.map (·.1)) ∧ fs.length ≤ 1000 ∧ H dx = some (.own a) := by
  obtain ⟨d, z, ne, ob, mA, n, r, q⟩ := (show ObjOk P w H h a (.ins C dx fs) from hok a _ e)
  exact ⟨mA, ⟨ob, n, ne⟩, r, q, z, d⟩
end
structure Cls (K : PySem.W.Frag) (C : Addr) : Prop where
  pg : PySem.W.plainGet K C Str.empty = true
  hd : PySem.W.hasDictIn K C = true
  po : PySem.W.plainOver K C = true
  sa : PySem.W.findIn K (.ref C) "__setattr__" = some (some (.builtin "object.__setattr__"))
theorem Cls.get {K : PySem.W.Frag} {C : Addr} (c : Cls K C) (f : Str) : PySem.W.plainGet K C f = true := c.pg
noncomputable def NoAttr (K : PySem.W.Frag) (C : Addr) (f : Str) : Prop := PySem.W.findIn K (.ref C) f = some none
theorem NoAttr.taker {K : PySem.W.Frag} {C : Addr} {f : Str} (n : NoAttr K C f) : PySem.W.takerIn K C f = some none := by
  unfold PySem.W.takerIn
  rw [show PySem.W.findIn K (.ref C) f = some none from n]
  rfl
structure Meth (K : PySem.W.Frag) (C : Addr) (m : Str) (f : Addr) : Prop where
  at_ : PySem.W.findIn K (.ref C) m = some (some (.ref f))
  fn : PySem.W.isFn K (.ref f) = true
  kp : PySem.W.keepIn K (.ref f) = true
section
variable {X : Cx} {pins : List (Addr × Obj)} {σ : St} {H : Hp} {s : Shared} {a C dx : Addr} {fs : List (Str × V)} {f : Str} {v : V} {A : Around} {E : Value → Shared → Prop}
theorem getattr_ok {b : Bool} {Q : Value → Shared → Prop} (I : Inv X pins σ H s) (e : H a = some (.ins C dx fs)) (c : Cls X.K C) (n : NoAttr X.K C f) (l : fs.lookup f = some v)
    (h : ∀ u s', Inv X pins σ H s' → RelV v u → Q u s') : wpAny (model X.prog X.w) A (getAttr (.ref a) f b) Q E s := by
  obtain ⟨mA, O, r, _, _, _⟩ := ins_get I.hok e
  obtain ⟨u, hu, ru⟩ := RelO.some_of (v := v) (o := mA f) (by rw [← l]; exact r f)
  exact get_map I.kIn O (c.get f) c.hd n hu (handed_of ru) (h u _ (I.tok _) ru)
theorem getmeth_ok {m : Str} {g : Addr} {pl : Sem Bool} {Q : Value × List Value → Shared → Prop} (I : Inv X pins σ H s) (e : H a = some (.ins C dx fs)) (c : Cls X.K C) (k : Meth X.K C m g) (l : fs.lookup m = none)
    (h : Q (.ref g, [.ref a]) s) : wpAny (model X.prog X.w) A (getMethod (.ref a) m pl) Q E s := by
  obtain ⟨mA, O, r, _, _, _⟩ := ins_get I.hok e
  have hn : mA m = none := RelO.none_of (by rw [← l]; exact r m)
  exact get_meth I.kIn O (c.get m) k.at_ k.fn hn h
theorem setattr_ok {y : V} {u : Value} {Q : Unit → Shared → Prop} (I : Inv X pins σ H s) (e : H a = some (.ins C dx fs)) (c : Cls X.K C) (n : NoAttr X.K C f) (hl : fs.length < 1000) (ry : RelV y u)
    (h : ∀ s', Inv X pins σ (upd H a (.ins C dx (putF f y fs))) s' → Q () s') : wpAny (model X.prog X.w) A (setAttr (.ref a) f u) Q E s := by
  obtain ⟨mA, O, r, wi, _, ho⟩ := ins_get I.hok e
  have hz : (fs.map (·.1)).length ≤ sizeLine := by rw [List.length_map, sizeLine_eq]; omega
  refine set_map I.kIn O c.sa c.po n.taker c.hd wi hz fun h' O' sb => h _ ?_
  have hd : ∃ o, h'.get? dx = some o := let ⟨o, _, _, e', _⟩ := O'.ns; ⟨o, e'⟩
  refine I.write (x := a) (e := dx) (by rw [e]; exact True.intro) (.inr ho) (fun b q hb z => (sb.2 b hb).trans z) hd ?_
  refine ⟨by rw [upd_ne O.ne]; exact ho, ?_, O.ne, O'.obj, _, O'.ns, fun g => ?_, fun g hg => ?_⟩
  · have := length_putF f y fs; omega
  · show RelO ((putF f y fs).lookup g) (if g = f then some u else mA g)
    rw [lookup_putF]
    by_cases q : g = f
    · rw [if_pos q, if_pos q]; exact ry
    · rw [if_neg q, if_neg q]; exact r g
  · by_cases q : g = f
    · rw [q]; exact (keys_putF f y fs).1
    · refine (keys_putF f y fs).2 g (wi g fun z => hg ?_)
      show (if g = f then some u else mA g) = none
      rw [if_neg q]; exact z
theorem Inv.made (I : Inv X pins σ H s) : Inv X pins σ (upd (upd H s.heap.objs.size (.own (s.heap.objs.size + 1))) (s.heap.objs.size + 1) (.ins C s.heap.objs.size []))
    { s with heap := (s.heap.push PySem.W.emptyDict).push (PySem.W.instObj C s.heap.objs.size) } := by
  have e1 : (s.heap.push PySem.W.emptyDict).get? s.heap.objs.size = some PySem.W.emptyDict := Heap.get?_push_size s.heap rfl
  have e2 : ((s.heap.push PySem.W.emptyDict).push (PySem.W.instObj C s.heap.objs.size)).get? (s.heap.objs.size + 1) = some (PySem.W.instObj C s.heap.objs.size) := by
    have := Heap.get?_push_size (s.heap.push PySem.W.emptyDict) (o := PySem.W.instObj C s.heap.objs.size) rfl
    rwa [Heap.size_push] at this
  have e3 : (s.heap.push PySem.W.emptyDict).Ns s.heap.objs.size (fun _ => none) := ⟨PySem.W.emptyDict, #[], _, e1, rfl, (fun e he => absurd he (by simp)), fun _ => rfl⟩
  have I1 := I.laid (a := s.heap.objs.size) (o := .own (s.heap.objs.size + 1)) (h' := s.heap.push PySem.W.emptyDict) (t' := s.toks) (fun b u q => Heap.get?_push_of_some _ q) (Nat.le_refl _) ⟨_, e1⟩
  refine I1.laid (a := s.heap.objs.size + 1) (o := .ins C s.heap.objs.size []) (t' := s.toks) (fun b u q => Heap.get?_push_of_some _ q) (Nat.le_of_eq (Heap.size_push _ _)) ?_
  have ne : s.heap.objs.size ≠ s.heap.objs.size + 1 := Nat.ne_of_lt (Nat.lt_succ_self _)
  refine ⟨by rw [upd_ne ne, upd_same], Nat.zero_le _, ne, e2, fun _ => none, (Heap.Ns1.of_empty e3).at fun o q => Heap.get?_push_of_some _ q, fun _ => True.intro, fun y hy => absurd rfl hy⟩
theorem attr_of {prog : Program} {w : World} {env : Env} {e : Expr} {f : Str} {pos : Pos} {s : Shared} {Q : Value → Shared → Prop} (hb : attributeBase e f env (eval e env) = eval e env)
    (h : wpAny (model prog w) A (eval e env) (fun o s₁ => wpAny (model prog w) A (getAttr o f true) Q E s₁) E s) : wpAny (model prog w) A (eval (.Attribute e f pos) env) Q E s :=
  Attribute_any_ h (by rw [arm_eval_Attribute, hb])
end
noncomputable def tFld (K : PySem.W.Frag) (ta : TE) (f : Str) : TE := fun σ H Q => ta σ H fun x H1 => ∃ a C dx fs v, x = .ref a ∧ H1 a = some (.ins C dx fs) ∧ Cls K C ∧ NoAttr K C f ∧ fs.lookup f = some v ∧ Q v H1
noncomputable def sFld (K : PySem.W.Frag) (ta tv : TE) (f : Str) : TS := fun D σ H => tv σ H fun y H1 => ta σ H1 fun x H2 => ∃ a C dx fs, x = .ref a ∧ H2 a = some (.ins C dx fs) ∧ Cls K C ∧ NoAttr K C f ∧ fs.length < 1000 ∧
  D.nx σ (upd H2 a (.ins C dx (putF f y fs)))
section
variable {X : Cx} {o e value : Expr} {f : Str} {pos pos' tpos : Pos} {ta tv : TE}
theorem pe_fld (he : PE X e ta) (hb : attributeBase e f X.env (eval e X.env) = eval e X.env) : PE X (.Attribute e f pos) (tFld X.K ta f) := by
  intro pins s σ H Q I h
  refine attr_of hb (thn (he pins s σ H _ I h) fun u s1 ⟨x, H1, I1, rx, a, C, dx, fs, v, ex, ea, c, n, l, q⟩ => ?_)
  subst ex
  obtain rfl : u = Value.ref a := rx
  exact getattr_ok I1 ea c n l fun u' s2 I2 ru => ⟨v, H1, I2, ru, q⟩
theorem ps_fld (ha : PE X o ta) (hv : PE X value tv) (hs : swapsWith value (some (.Attribute o f pos')) pos.line X.env = pure false) : PS X (.Assign [.Attribute o f pos'] value pos) (sFld X.K ta tv f) := by
  intro pins s σ H D I h
  refine plainObj_wpAny_Assign_Attribute (thn (hv pins s σ H _ I h) fun u s1 ⟨y, H1, I1, ry, q⟩ => thn (ha pins s1 σ H1 _ I1 q) fun ov s2 ⟨x, H2, I2, rx, a, C, dx, fs, ex, ea, c, n, l, q2⟩ => ?_) hs
  subst ex
  obtain rfl : ov = Value.ref a := rx
  exact setattr_ok I2 ea c n l ry fun s3 I3 => ⟨σ, _, I3, q2⟩
end
section
variable {X : Cx} {pins : List (Addr × Obj)} {σ : St} {H : Hp} {s : Shared} {A : Around} {E : Value → Shared → Prop} {Q : Value → Shared → Prop} {c : Value} {b : Bool}
inductive TyOf (K : PySem.W.Frag) (H : Hp) : V → Value → Prop where
  | non : TyOf K H .non (.type "NoneType")
  | bl (x : Bool) : TyOf K H (.bl x) (.type "bool")
  | int (i : Int) : TyOf K H (.int i) (.type "int")
  | str (x : Str) : TyOf K H (.str x) (.type "str")
  | flt (x : UInt64) : TyOf K H (.flt x) (.type "float")
  | lst {a : Addr} {xs : List V} (e : H a = some (.lst xs)) : TyOf K H (.ref a) (.type "list")
  | frz {a : Addr} {o : Obj} {xs : List V} (e : H a = some (.frz o (.lst xs))) : TyOf K H (.ref a) (.type "list")
  | tup {a : Addr} {xs : List V} (e : H a = some (.tup xs)) : TyOf K H (.ref a) (.type "tuple")
  | dK {a : Addr} {kvs : List (Key × V)} (e : H a = some (.dK kvs)) : TyOf K H (.ref a) (.type "dict")
  | dT {a : Addr} {kvs : List (List Key × V)} (e : H a = some (.dT kvs)) : TyOf K H (.ref a) (.type "dict")
  | ins {a C dx : Addr} {fs : List (Str × V)} (e : H a = some (.ins C dx fs)) (cl : Cls K C) (ha : PySem.W.findIn K (.ref C) "__class__" = some (some (.builtin "object.__class__")))
      (hn : PySem.W.specialIn K (.builtin "object.__class__") "__get__" = some (some (.builtin "getset_descriptor.__get__"))) (htk : PySem.W.takesIn K (.builtin "object.__class__") = some true)
      (hm : PySem.W.mroIn K C (.type "object") = some true) : TyOf K H (.ref a) (.ref C)
theorem isinst_ok {x : V} {u t : Value} (I : Inv X pins σ H s) (rx : RelV x u) (ty : TyOf X.K H x t) (e : PySem.W.kitOne X.K t c = some b) (h : ∀ tk, Q (.bool b) { s with toks := tk }) :
    wpAny (model X.prog X.w) A (call (.builtin "isinstance") [u, c]) Q E s := by
  cases ty with
  | non => cases (show u = Value.none from rx); exact PySem.W.kia_one PySem.W.kitx_none I.kIn True.intro e (fun z => nomatch z) h
  | bl y => cases (show u = Value.bool y from rx); exact PySem.W.kia_one PySem.W.kitx_bool I.kIn True.intro e (fun z => nomatch z) h
  | int i => obtain ⟨t, q⟩ := (show ∃ t, u = Value.int i t from rx); cases q; exact PySem.W.kia_one PySem.W.kitx_int I.kIn True.intro e (fun z => nomatch z) h
  | str y => obtain ⟨t, q⟩ := (show ∃ t, u = Value.str y t from rx); cases q; exact PySem.W.kia_one PySem.W.kitx_str I.kIn True.intro e (fun z => nomatch z) h
  | flt y => obtain ⟨t, q⟩ := (show ∃ t, u = Value.float y t from rx); cases q; exact PySem.W.kia_one PySem.W.kitx_float I.kIn True.intro e (fun z => nomatch z) h
  | @lst a xs ea =>
    cases (show u = Value.ref a from rx)
    obtain ⟨_, _, n, _, h1⟩ := (show ObjOk X.prog X.w H s.heap a (.lst xs) from I.hok a _ ea)
    exact PySem.W.kia_one PySem.W.kitx_list I.kIn ⟨_, h1, rfl⟩ e (fun z => nomatch z) h
  | @frz a ob xs ea =>
    cases (show u = Value.ref a from rx)
    obtain ⟨_, _, _, n, _, h1⟩ := (show ObjOk X.prog X.w H s.heap a (.frz ob (.lst xs)) from I.hok a _ ea)
    exact PySem.W.kia_one PySem.W.kitx_list I.kIn ⟨_, h1, rfl⟩ e (fun z => nomatch z) h
  | @tup a xs ea =>
    cases (show u = Value.ref a from rx)
    obtain ⟨_, _, _, p⟩ := (show ObjOk X.prog X.w H s.heap a (.tup xs) from I.hok a _ ea)
    obtain ⟨o, h1, h2, _⟩ := p
    exact PySem.W.kia_one PySem.W.kitx_tuple I.kIn ⟨o, h1, h2⟩ e (fun z => nomatch z) h
  | @dK a kvs ea =>
    cases (show u = Value.ref a from rx)
    obtain ⟨_, _, vs, _, p⟩ := (show ObjOk X.prog X.w H s.heap a (.dK kvs) from I.hok a _ ea)
    obtain ⟨o, es, ep, h1, h2, _⟩ := p
    exact PySem.W.kia_one PySem.W.kitx_dict I.kIn ⟨o, h1, h2.1⟩ e (fun z => nomatch z) h
  | @dT a kvs ea =>
    cases (show u = Value.ref a from rx)
    obtain ⟨_, _, xs, _, o, es, ep, h1, h2, _⟩ := (show ObjOk X.prog X.w H s.heap a (.dT kvs) from I.hok a _ ea)
    exact PySem.W.kia_one PySem.W.kitx_dict I.kIn ⟨o, h1, h2.1⟩ e (fun z => nomatch z) h
  | @ins a C dx fs ea cl ha hn htk hm =>
    cases (show u = Value.ref a from rx)
    obtain ⟨mA, O, _⟩ := ins_get I.hok ea
    obtain ⟨od, J, _⟩ := O.look
    exact PySem.W.kia_one (PySem.W.kitx_own (cl.get _) cl.hd ha hn htk hm) I.kIn J e (fun z => nomatch z) h
end
end L2
namespace L2
open PySem PySem.Spec PyProof.Rows
structure Room (k : Nat) (A : Around) : Prop where
  hd : A.handled = none
  dp : A.depth + 3 * k + 5 < recursionLimit
  un : A.units + 16 * k + 200 < cLine
theorem Room.mono {j k : Nat} {A : Around} (r : Room k A) (h : j ≤ k) : Room j A := ⟨r.hd, by have := r.dp; omega, by have := r.un; omega⟩
theorem Room.deeper {k : Nat} {A : Around} (r : Room (k + 1) A) (env : Env) : Room k (A.deeper env) :=
  ⟨r.hd, by have := r.dp; show A.depth + 1 + 3 * k + 5 < _; omega, by have := r.un; show A.units + 3 + 16 * k + 200 < _; omega⟩
theorem make_depth {A : Around} {C : Addr} {us : List Value} {kw : List (Str × Value)} : (A.under (.builtin "type.__call__" ⟨.ref C :: us, kw⟩)).depth = A.depth + 1 := by
  first | rfl | simp [Around.under, Code.weight, Code.isCreation, Code.isGuard, Code.isCaller, Code.frames, Code.isFrame, guardIds]
theorem make_units {A : Around} {C : Addr} {us : List Value} {kw : List (Str × Value)} : (A.under (.builtin "type.__call__" ⟨.ref C :: us, kw⟩)).units = A.units + 1 := by
  first | rfl | simp [Around.under, Code.cUnits, Code.frames, Code.isFrame]
theorem Room.make {k : Nat} {A : Around} (r : Room (k + 1) A) (C : Addr) (us : List Value) (kw : List (Str × Value)) : Room k (A.under (.builtin "type.__call__" ⟨.ref C :: us, kw⟩)) :=
  ⟨r.hd, by have := r.dp; rw [make_depth]; omega, by have := r.un; rw [make_units]; omega⟩
theorem Room.depth {k : Nat} {A : Around} (r : Room k A) : A.depth < recursionLimit := by have := r.dp; omega
theorem Room.units {k : Nat} {A : Around} (r : Room k A) : A.units + 64 < cLine := by have := r.un; omega
noncomputable def tNil : TA := fun _ H Q => Q [] H
noncomputable def tCons (ta : TE) (tr : TA) : TA := fun σ H Q => ta σ H fun x H1 => tr σ H1 fun xs H2 => Q (x :: xs) H2
section
variable {X : Cx} {e : Expr} {es : List Expr} {te : TE} {t : TA} {pos : Pos}
theorem pa_nil : PA X [] tNil := fun _ _ _ _ H Q I h => Calls.spliced_nil ⟨[], H, I, .nil, h⟩
theorem pa_cons (ha : PE X e te) (hr : PA X es t) (hs : starEach (e :: es) X.env = (false, eval e X.env) :: starEach es X.env := by rfl) : PA X (e :: es) (tCons te t) := by
  intro pos pins s σ H Q I h
  rw [hs]
  show wpAny _ _ (spliced ((false, eval e X.env) :: backTo pos (starEach es X.env))) _ _ s
  refine Calls.spliced_cons (thn (ha pins s σ H _ I h) fun u s1 ⟨x, H1, I1, r1, q1⟩ => ?_)
  exact thn (hr pos pins s1 σ H1 _ I1 q1) fun us s2 ⟨xs, H2, I2, r2, q2⟩ => ⟨x :: xs, H2, I2, .cons r1 r2, q2⟩
noncomputable def tTup (t : TA) : TE := fun σ H Q => t σ H fun xs H1 => xs.length ≤ sizeLine ∧ ∀ p, H1 p = none → Q (.ref p) (upd H1 p (.tup xs))
noncomputable def tLst (t : TA) : TE := fun σ H Q => t σ H fun xs H1 => xs.length ≤ sizeLine ∧ ∀ p, H1 p = none → Q (.ref p) (upd H1 p (.lst xs))
theorem pe_tup {x1} (h : PA X es t) : PE X (.Tuple es x1 pos) (tTup t) := by
  intro pins s σ H Q I hq
  refine wpAny_Tuple_spliced (thn (h pos pins s σ H _ I hq) fun us s1 ⟨xs, H1, I1, r, z, q⟩ => ⟨by rw [← r.length]; exact z, ?_⟩)
  have hf : H1 s1.heap.objs.size = none := I1.hok.fresh (Nat.le_refl _)
  refine ⟨.ref s1.heap.objs.size, upd H1 s1.heap.objs.size (.tup xs), I1.laid (t' := s1.toks) (fun b u e => Heap.get?_push_of_some _ e) (Nat.le_refl _) ?_, rfl, q _ hf⟩
  exact ⟨z, us, r, ⟨_, Heap.get?_push_size _ rfl, rfl, _, rfl⟩⟩
theorem pe_lst (h : PA X es t) : PE X (.List es pos) (tLst t) := by
  intro pins s σ H Q I hq
  refine wpAny_List_spliced (thn (h pos pins s σ H _ I hq) fun us s1 ⟨xs, H1, I1, r, z, q⟩ => ⟨by rw [← r.length]; exact z, ?_⟩)
  have hf : H1 s1.heap.objs.size = none := I1.hok.fresh (Nat.le_refl _)
  refine ⟨.ref s1.heap.objs.size, upd H1 s1.heap.objs.size (.lst xs), I1.laid (t' := s1.toks) (fun b u e => Heap.get?_push_of_some _ e) (Nat.le_refl _) ?_, rfl, q _ hf⟩
  exact ⟨z, us, 0, r, Heap.get?_push_size _ rfl⟩
end
noncomputable abbrev Sp := List V → Hp → VK → XK → Prop
noncomputable abbrev CXT := List Env → Hp → Shared → XK → Value → Shared → Prop
structure Env0 (P : Program) (w : World) (K : PySem.W.Frag) (mg : Str → Option Value) (base : Heap) (A : Around) (outer : List Env) (s : Shared) (H : Hp) : Prop where
  frames : A.frames = some outer
  mod : Mod K mg base
  bs : ∀ b o, base.get? b = some o → s.heap.get? b = some o ∧ H b = none
  bsz : base.objs.size ≤ s.heap.objs.size
  funs : s.heap.FunFrames base outer
  frf : ∀ b ∈ frs outer, H b = none
  hok : HOk P w H s.heap
  bare : AllBare s.gens
noncomputable def CE (outer : List Env) (P : Program) (w : World) (H : Hp) (s : Shared) (Q : VK) (u : Value) (s' : Shared) : Prop :=
  ∃ v H', s'.os = s.os ∧ AllBare s'.gens ∧ Un (frs outer) [] H H' s.heap s'.heap ∧ HOk P w H' s'.heap ∧ RelV v u ∧ Q v H'
noncomputable def CR (CX : CXT) (outer : List Env) (P : Program) (w : World) (H : Hp) (s : Shared) (Q : VK) (E : XK) (r : Result) (s' : Shared) : Prop :=
  match r with
  | .ok (.ret u) => CE outer P w H s Q u s'
  | .ok _ => False
  | .error e => CX outer H s E e s'
structure FnOk (P : Program) (w : World) (K : PySem.W.Frag) (mg : Str → Option Value) (base : Heap) (CX : CXT) (k : Nat) (f : Addr) (fd : FuncData) (ps : List Str) (sp : Sp) : Prop where
  len : ∀ vs H Q E, sp vs H Q E → vs.length = ps.length
  run : ∀ (A : Around) (outer : List Env) (s : Shared) (H : Hp) (args : Args) (us : List Value) (vs : List V) (Q : VK) (E : XK), Room k A → Env0 P w K mg base A outer s H → BindsTo s fd args (ps.zip us) → Vals vs us → sp vs H Q E →
    codeAny (model P w) A (.call (.ref f) args) (CR CX outer P w H s Q E) s
theorem Env0.make {P : Program} {w : World} {K : PySem.W.Frag} {mg : Str → Option Value} {base : Heap} {A : Around} {outer : List Env} {s : Shared} {H : Hp} (e : Env0 P w K mg base A outer s H) (C : Addr) (us : List Value) (kw : List (Str × Value)) :
    Env0 P w K mg base (A.under (.builtin "type.__call__" ⟨.ref C :: us, kw⟩)) outer s H := ⟨by first | exact e.frames | (simpa [Around.under, Code.envs, Code.isFrame, pushEnvs] using e.frames), e.mod, e.bs, e.bsz, e.funs, e.frf, e.hok, e.bare⟩
section
variable {X : Cx} {pins : List (Addr × Obj)} {σ : St} {H : Hp} {s s' : Shared}
theorem Inv.env0 (I : Inv X pins σ H s) : Env0 X.prog X.w X.K X.mg X.base X.A X.stack s H :=
  ⟨I.ok.frames, I.ok.mod, I.bs, Nat.le_trans I.ok.bsz I.sz, I.stack, I.stkFree, I.hok, I.bare⟩
theorem Inv.after {Q : VK} {u : Value} (I : Inv X pins σ H s) (h : CE X.stack X.prog X.w H s Q u s') : EP X pins σ Q u s' := by
  obtain ⟨v, H', os, bare, un, hok, r, q⟩ := h
  obtain ⟨hh, g, d, t, os'⟩ := s'
  obtain rfl : os' = s.os := os
  exact ⟨v, H', I.call (h' := hh) (g' := g) (d' := d) (t' := t) (ch := []) un hok bare (fun b z => absurd z (by simp)), r, q⟩
end
noncomputable def tCall (sp : Sp) (dvs : List V) (E : XK) (t : TA) : TE := fun σ H Q => t σ H fun vs H1 => sp (vs ++ dvs) H1 Q E
noncomputable def tMeth (C : Addr) (m : Str) (sp : Sp) (dvs : List V) (E : XK) (ta : TE) (t : TA) : TE := fun σ H Q => ta σ H fun x H1 => ∃ a dx fs, x = .ref a ∧ H1 a = some (.ins C dx fs) ∧ fs.lookup m = none ∧
  t σ H1 fun vs H2 => sp (x :: (vs ++ dvs)) H2 Q E
noncomputable def tMake (C : Addr) (sp : Sp) (dvs : List V) (E : XK) (t : TA) : TE := fun σ H Q => t σ H fun vs H1 => ∀ x dx, H1 x = none → H1 dx = none → dx ≠ x →
  sp (.ref x :: (vs ++ dvs)) (upd (upd H1 dx (.own x)) x (.ins C dx [])) (fun v H2 => v = .non ∧ Q (.ref x) H2) E
noncomputable def Binds (K : PySem.W.Frag) (fd : FuncData) (ps : List Str) (ds : List Value) : Prop :=
  ∀ (s : Shared) (us : List Value), K.In s.heap → (us ++ ds).length = ps.length → BindsTo s fd ⟨us, []⟩ (ps.zip (us ++ ds))
theorem Binds.all {K : PySem.W.Frag} {fd : FuncData} {ps : List Str} (h : ∀ us : List Value, us.length = ps.length → bindArgs fd ⟨us, []⟩ = pure (ps.zip us)) : Binds K fd ps [] := fun s us _ hl => by
  rw [List.append_nil] at hl ⊢
  exact .of_eq (h us hl)
noncomputable def Passes (CX : CXT) (X : Cx) (E : XK) : Prop := ∀ (pins : List (Addr × Obj)) (σ : St) (H : Hp) (s : Shared) (e : Value) (s' : Shared), Inv X pins σ H s → CX X.stack H s E e s' → X.xe e s'
section
variable {X : Cx} {CX : CXT} {k : Nat} {f C : Addr} {fd : FuncData} {ps : List Str} {sp : Sp} {dvs : List V} {ds : List Value} {E : XK} {x m : Str} {p pos apos : Pos} {e o : Expr} {es : List Expr} {ta : TE} {t : TA}
theorem run_fn {pins : List (Addr × Obj)} {σ : St} {H : Hp} {s : Shared} {Q : VK} {us : List Value} {vs : List V} (F : FnOk X.prog X.w X.K X.mg X.base CX k f fd ps sp) (hr : Room k X.A) (hb : Binds X.K fd ps ds) (hd : Vals dvs ds) (hx : Passes CX X E)
    (I : Inv X pins σ H s) (r : Vals vs us) (h : sp (vs ++ dvs) H Q E) : wpAny (model X.prog X.w) X.A (call (.ref f) us) (EP X pins σ Q) X.xe s := by
  have r2 : Vals (vs ++ dvs) (us ++ ds) := r.append hd
  have hl : (us ++ ds).length = ps.length := by rw [← r2.length]; exact F.len _ _ _ _ h
  refine wpAny_call (codeAny_mono (F.run X.A X.stack s H ⟨us, []⟩ (us ++ ds) (vs ++ dvs) Q E hr I.env0 (hb s us I.kIn hl) r2 h) fun r s' hq => ?_)
  cases r with
  | error e => exact hx pins σ H s e s' I hq
  | ok fl =>
    cases fl with
    | ret u => exact I.after hq
    | next => exact False.elim hq
    | brk => exact False.elim hq
    | cont => exact False.elim hq
theorem pe_call (F : FnOk X.prog X.w X.K X.mg X.base CX k f fd ps sp) (hr : Room k X.A) (hg : Gl X x) (hm : X.mg x = some (.ref f)) (hk : PySem.W.keepIn X.K (.ref f) = true) (hb : Binds X.K fd ps ds) (hd : Vals dvs ds) (hx : Passes CX X E)
    (ha : PA X (e :: es) t) (hdb : (x == ("__debug__" : Str)) = false := by decide) (he : starEach (e :: es) X.env = (false, eval e X.env) :: starEach es X.env := by rfl) (hpl : (backTo pos (starEach es X.env)).any (·.1) = false := by rfl) :
    PE X (.Call (.Name x p) (e :: es) [] pos) (tCall sp dvs E t) := by
  intro pins s σ H Q I h
  refine wpAny_Call_Name_kw (ld_glob I hg hm ?_ hdb)
  refine PySem.W.callWith_K (h₀ := X.base) I.ok.mod.kin hk (thn (ha pos pins s σ H _ I h) fun us s1 ⟨vs, H1, I1, r, q⟩ => ⟨I1.kIn, ?_⟩) he hpl
  exact run_fn F hr hb hd hx I1 r q
theorem pe_meth {pl : Sem Bool} (he : PE X o ta) (c : Cls X.K C) (hm : Meth X.K C m f) (F : FnOk X.prog X.w X.K X.mg X.base CX k f fd ps sp) (hr : Room k X.A) (hb : Binds X.K fd ps ds) (hd : Vals dvs ds) (hx : Passes CX X E) (ha : PA X (e :: es) t)
    (hst : starEach (e :: es) X.env = (false, eval e X.env) :: starEach es X.env := by rfl) (hpl : (backTo pos (starEach es X.env)).any (·.1) = false := by rfl)
    (ht : eval (.Call (.Attribute o m apos) (e :: es) [] pos) X.env = (do
      let ov ← eval o X.env
      standAt apos.atName
      let (f, first) ← holding [ov] (getMethod ov m pl)
      callWith pos f first (backTo pos (starEach (e :: es) X.env)) (backToKw pos (keywordEach [] X.env))) := by rfl) :
    PE X (.Call (.Attribute o m apos) (e :: es) [] pos) (tMeth C m sp dvs E ta t) := by
  intro pins s σ H Q I h
  refine PySem.W.methodCall_KW (pl := pl) (thn (he pins s σ H _ I h) fun u s1 ⟨x, H1, I1, rx, a, dx, fs, ex, ea, l, q⟩ => ?_) ht
  subst ex
  obtain rfl : u = Value.ref a := rx
  refine getmeth_ok I1 ea c hm l ?_
  refine PySem.W.callWith_K (first := [.ref a]) (h₀ := X.base) I.ok.mod.kin hm.kp (thn (ha pos pins s1 σ H1 _ I1 q) fun us s2 ⟨vs, H2, I2, r, q2⟩ => ⟨I2.kIn, ?_⟩) hst hpl
  exact run_fn (us := .ref a :: us) (vs := .ref a :: vs) F hr hb hd hx I2 (.cons rfl r) q2
structure Mk (K : PySem.W.Frag) (C f : Addr) : Prop where
  makes : PySem.W.makesIn K C = true
  init : PySem.W.findIn K (.ref C) "__init__" = some (some (.ref f))
  fn : PySem.W.isFn K (.ref f) = true
  kp : PySem.W.keepIn K (.ref C) = true
theorem run_make {pins : List (Addr × Obj)} {σ : St} {H : Hp} {s : Shared} {Q : VK} {us : List Value} {vs : List V} (M : Mk X.K C f) (F : FnOk X.prog X.w X.K X.mg X.base CX k f fd ps sp) (hr : Room (k + 1) X.A) (hb : Binds X.K fd ps ds) (hd : Vals dvs ds)
    (hx : Passes CX X E) (I : Inv X pins σ H s) (r : Vals vs us)
    (h : ∀ x dx, H x = none → H dx = none → dx ≠ x → sp (.ref x :: (vs ++ dvs)) (upd (upd H dx (.own x)) x (.ins C dx [])) (fun v H2 => v = .non ∧ Q (.ref x) H2) E) :
    wpAny (model X.prog X.w) X.A (call (.ref C) us) (EP X pins σ Q) X.xe s := by
  have hq := h (s.heap.objs.size + 1) s.heap.objs.size (I.hok.fresh (Nat.le_succ _)) (I.hok.fresh (Nat.le_refl _)) (Nat.ne_of_lt (Nat.lt_succ_self _))
  have I2 := Inv.made (C := C) I
  have r2 : Vals (V.ref (s.heap.objs.size + 1) :: (vs ++ dvs)) (Value.ref (s.heap.objs.size + 1) :: (us ++ ds)) := .cons rfl (r.append hd)
  have hl : (Value.ref (s.heap.objs.size + 1) :: us ++ ds).length = ps.length := by
    have e := r2.length
    rw [F.len _ _ _ _ hq] at e
    exact e.symm
  refine wpAny_call (make_map (f := f) I.kIn M.makes M.init (beq_iff_eq.mp M.fn) (codeAny_mono (F.run _ X.stack _ _ ⟨Value.ref (s.heap.objs.size + 1) :: us, []⟩ (Value.ref (s.heap.objs.size + 1) :: (us ++ ds)) _ _ E (hr.make C us [])
    (I2.env0.make C us []) (hb _ (Value.ref (s.heap.objs.size + 1) :: us) I2.kIn hl) r2 hq) fun r s' hq' => ?_))
  cases r with
  | error e => exact hx pins σ _ _ e s' I2 hq'
  | ok fl =>
    cases fl with
    | ret u =>
      obtain ⟨v, H', I3, rv, ev, q3⟩ := I2.after hq'
      subst ev
      exact ⟨rv, ⟨V.ref (s.heap.objs.size + 1), H', I3, rfl, q3⟩⟩
    | next => exact False.elim hq'
    | brk => exact False.elim hq'
    | cont => exact False.elim hq'
theorem pe_make (M : Mk X.K C f) (F : FnOk X.prog X.w X.K X.mg X.base CX k f fd ps sp) (hr : Room (k + 1) X.A) (hg : Gl X x) (hm : X.mg x = some (.ref C)) (hb : Binds X.K fd ps ds) (hd : Vals dvs ds) (hx : Passes CX X E)
    (ha : PA X (e :: es) t) (hdb : (x == ("__debug__" : Str)) = false := by decide) (he : starEach (e :: es) X.env = (false, eval e X.env) :: starEach es X.env := by rfl) (hpl : (backTo pos (starEach es X.env)).any (·.1) = false := by rfl) :
    PE X (.Call (.Name x p) (e :: es) [] pos) (tMake C sp dvs E t) := by
  intro pins s σ H Q I h
  refine wpAny_Call_Name_kw (ld_glob I hg hm ?_ hdb)
  refine PySem.W.callWith_K (h₀ := X.base) I.ok.mod.kin M.kp (thn (ha pos pins s σ H _ I h) fun us s1 ⟨vs, H1, I1, r, q⟩ => ⟨I1.kIn, ?_⟩) he hpl
  exact run_make M F hr hb hd hx I1 r q
end
section
variable {X : Cx} {CX : CXT} {k : Nat} {f C : Addr} {fd : FuncData} {ps ks : List Str} {sp : Sp} {E : XK} {x m : Str} {p pos apos kpos : Pos} {e o : Expr} {es : List Expr} {kws : List Keyword} {te ta : TE} {t tk : TA} {nm : Option Str}
variable {g : List Value → List Value → List Value} {gV : List V → List V → List V}
end
structure FnScope (N P : List Str) (sc : Scope) : Prop where
  kind : sc.kind = .function
  co : sc.isCoroutine = false
  gen : sc.isGenerator = false
  nd : N.Nodup
  pre : N.take P.length = P
  par : ∀ x ∈ P, sc.names.lookup x = some .local ∨ sc.names.lookup x = some .cell
  nofree : ∀ y ∈ sc.names, y.2 ≠ .free
theorem bindL_out {kindOf : Str → Option NameKind} {x : Str} : ∀ {binds : List (Str × Value)} {m : Str → Option Value}, (∀ v, (x, v) ∉ binds) → bindL kindOf binds m x = m x
  | [], _, _ => rfl
  | (n, v) :: r, m, h => by
    unfold bindL
    rw [bindL_out fun w hw => h w (List.mem_cons_of_mem _ hw)]
    split
    · have : x ≠ n := by rintro rfl; exact h v List.mem_cons_self
      simp [this]
    · rfl
theorem bindC_out {kindOf : Str → Option NameKind} {x : Str} : ∀ {binds : List (Str × Value)} {m : Str → Option Value}, (∀ v, (x, v) ∉ binds) → bindC kindOf binds m x = m x
  | [], _, _ => rfl
  | (n, v) :: r, m, h => by
    unfold bindC
    rw [bindC_out fun w hw => h w (List.mem_cons_of_mem _ hw)]
    split
    · rfl
    · have : x ≠ n := by rintro rfl; exact h v List.mem_cons_self
      simp [this]
theorem bindL_get {kindOf : Str → Option NameKind} {x : Str} {v : Value} : ∀ {P : List Str} {vs : List Value} {i : Nat} {m : Str → Option Value}, P.Nodup → P[i]? = some x → vs[i]? = some v → kindOf x = some .local →
    bindL kindOf (P.zip vs) m x = some v
  | [], _, _, _, _, h, _, _ => by simp at h
  | _ :: _, [], _, _, _, _, h, _ => by simp at h
  | p :: P, w :: vs, 0, m, nd, h1, h2, hk => by
    simp at h1 h2; subst h1; subst h2
    show bindL kindOf ((p, w) :: P.zip vs) m p = _
    unfold bindL
    rw [bindL_out fun v hv => (List.nodup_cons.mp nd).1 (List.of_mem_zip hv).1, if_pos hk]
    simp
  | p :: P, w :: vs, i + 1, m, nd, h1, h2, hk => by
    show bindL kindOf ((p, w) :: P.zip vs) m x = _
    unfold bindL
    exact bindL_get (i := i) (List.nodup_cons.mp nd).2 (by simpa using h1) (by simpa using h2) hk
theorem bindC_get {kindOf : Str → Option NameKind} {x : Str} {v : Value} : ∀ {P : List Str} {vs : List Value} {i : Nat} {m : Str → Option Value}, P.Nodup → P[i]? = some x → vs[i]? = some v → kindOf x ≠ some .local →
    bindC kindOf (P.zip vs) m x = some v
  | [], _, _, _, _, h, _, _ => by simp at h
  | _ :: _, [], _, _, _, _, h, _ => by simp at h
  | p :: P, w :: vs, 0, m, nd, h1, h2, hk => by
    simp at h1 h2; subst h1; subst h2
    show bindC kindOf ((p, w) :: P.zip vs) m p = _
    unfold bindC
    rw [bindC_out fun v hv => (List.nodup_cons.mp nd).1 (List.of_mem_zip hv).1, if_neg hk]
    simp
  | p :: P, w :: vs, i + 1, m, nd, h1, h2, hk => by
    show bindC kindOf ((p, w) :: P.zip vs) m x = _
    unfold bindC
    exact bindC_get (i := i) (List.nodup_cons.mp nd).2 (by simpa using h1) (by simpa using h2) hk
noncomputable def start (N : List Str) (vs : List V) : St := vs.map some ++ List.replicate (N.length - vs.length) none
noncomputable def cxOf (CX : CXT) (P : Program) (w : World) (K : PySem.W.Frag) (mg : Str → Option Value) (base : Heap) (N : List Str) (qual : Str) (scope : Scope) (f : Addr) (cd : Value) (A : Around) (outer : List Env) (s : Shared) (H : Hp) (E : XK) : Cx where
  prog := P
  w := w
  K := K
  mg := mg
  base := base
  A := A.deeper (envOfC qual scope s.heap.objs.size f cd)
  N := N
  s₀ := s
  H₀ := H
  env := envOfC qual scope s.heap.objs.size f cd
  outer := outer
  stack := envOfC qual scope s.heap.objs.size f cd :: outer
  ex := []
  calm := true
  fn := fun _ => true
  pn := []
  xe := fun e s' => wpAny (model P w) (A.deeper (envOfC qual scope s.heap.objs.size f cd)) (leaving (envOfC qual scope s.heap.objs.size f cd) e) (fun _ s'' => CX outer H s E e s'') (fun e' s'' => CX outer H s E e' s'') s'
theorem cell_has {sc : Scope} {n : Nat} {x : Str} (h : sc.names.lookup x = some .cell) : ∃ c, (cellsFrom n sc.names []).lookup x = some c := by
  have q := PySem.W.cellsFrom_some sc.names n [] (.inl h)
  exact Option.isSome_iff_exists.mp q
theorem inv_start {CX : CXT} {P : Program} {w : World} {K : PySem.W.Frag} {mg : Str → Option Value} {base : Heap} {N ps : List Str} {qual : Str} {scope : Scope} {f : Addr} {cd : Value} {A : Around} {outer : List Env} {s s1 : Shared} {H : Hp} {E : XK} {us : List Value} {vs : List V}
    (S : FnScope N ps scope) (hd : A.handled = none) (e0 : Env0 P w K mg base A outer s H) (hl : vs.length = ps.length) (r : Vals vs us)
    (x : InCallC s s.heap.objs.size (bindL (envOfC qual scope s.heap.objs.size f cd).kindOf (ps.zip us) fun _ => none) (cellsFrom (s.heap.objs.size + 1) scope.names []) (bindC (envOfC qual scope s.heap.objs.size f cd).kindOf (ps.zip us) fun _ => none) s1) :
    Inv (cxOf CX P w K mg base N qual scope f cd A outer s H E) [] (start N vs) H s1 := by
  have hpl : ps.length ≤ N.length := by have := congrArg List.length S.pre; rw [List.length_take] at this; omega
  obtain ⟨h1, tk, rfl, hk⟩ := x.done
  have noA : ∀ b : Addr, b ∉ (cxOf CX P w K mg base N qual scope f cd A outer s H E).ex := fun b z => absurd (show b ∈ ([] : List Addr) from z) (by simp)
  refine ⟨⟨e0.mod, S.kind, rfl, rfl, Nat.le_refl _, fun y z c h1 h2 => ?_, fun y hy => ?_, fun y c _ h => ?_, fun _ => hd, Around.frames_deeper e0.frames, .inr ⟨rfl, rfl⟩, fun b z => absurd z (noA b), e0.bs, e0.bsz, fun b _ _ => noA b, fun b z => absurd z (noA b), e0.funs, e0.frf⟩,
    rfl, e0.bare, Un.kept hk, ⟨_, x.toInCall.ns, fun i y v h1 h2 h3 => ?_⟩, fun y c h => ⟨_, x.cell y c h⟩, e0.hok.fresh (Nat.le_refl _), fun y c h => ?_, fun p hp => absurd (show p ∈ ([] : List (Addr × Obj)) from hp) (by simp), e0.hok.kept hk, ?_⟩
  · exact name_of_addr x.apart (PySem.mem_of_lookup h1) (PySem.mem_of_lookup h2)
  · have hy : scope.names.lookup y = some .cell ∨ scope.names.lookup y = some .free := hy
    rcases hy with hy | hy
    · exact cell_has hy
    · exact absurd rfl (S.nofree _ (PySem.mem_of_lookup hy))
  · exact Nat.le_of_lt (x.above y c (PySem.mem_of_lookup h))
  · have hi : i < vs.length := by
      unfold start at h2
      by_cases hi : i < vs.length
      · exact hi
      · rw [List.getElem?_append_right (by simpa using hi)] at h2
        rw [List.getElem?_replicate] at h2
        split at h2 <;> cases h2
    have ha : vs[i]? = some v := by
      unfold start at h2
      rw [List.getElem?_append_left (by simpa using hi), List.getElem?_map] at h2
      cases e : vs[i]? with
      | none => rw [e] at h2; cases h2
      | some a => rw [e] at h2; cases h2; rfl
    obtain ⟨u, hu, rv⟩ := r.get ha
    have hp : ps[i]? = some y := by
      rw [← S.pre, List.getElem?_take_of_lt (by omega)]; exact h1
    have ndP : ps.Nodup := by rw [← S.pre]; exact S.nd.sublist (List.take_sublist _ _)
    refine ⟨u, rv, ?_⟩
    rcases S.par y (List.mem_of_getElem? hp) with k | k
    · exact .inl ⟨k, bindL_get ndP hp hu k⟩
    · obtain ⟨c, e⟩ := cell_has (n := s.heap.objs.size + 1) k
      refine .inr ⟨.inl k, c, e, ?_⟩
      have q := x.cell y c e
      rw [bindC_get ndP hp hu (by show scope.names.lookup y ≠ _; rw [k]; decide)] at q
      exact q
  · exact e0.hok.fresh (Nat.le_of_lt (x.above y c (PySem.mem_of_lookup h)))
  · unfold start
    show _ = N.length
    rw [List.length_append, List.length_map, List.length_replicate]
    omega
theorem fn_of {CX : CXT} {P : Program} {w : World} {K : PySem.W.Frag} {mg : Str → Option Value} {base : Heap} {k : Nat} {f : Addr} {name qual : Str} {params : Arguments} {body : List Stmt} {scope : Scope} {dV kV doc pm cdv ct oc : Value} {an od : Option Addr}
    {osl : Array (Option Value)} {N ps : List Str} {sp : Sp} (lk : K.lookup f = some ⟨oc, od, .func (PySem.W.fnOf name qual params body scope dV kV doc pm an cdv ct), osl⟩) (hcd : PySem.W.codeIn K cdv qual = true) (S : FnScope N ps scope)
    (len : ∀ vs H Q E, sp vs H Q E → vs.length = ps.length)
    (hbody : ∀ (A : Around) (outer : List Env) (s : Shared) (H : Hp) (vs : List V) (Q : VK) (E : XK), Room k (A.deeper (envOfC qual scope s.heap.objs.size f cdv)) → sp vs H Q E →
      ∃ t, PSs (cxOf CX P w K mg base N qual scope f cdv A outer s H E) body t ∧ t { nx := fun _ H' => Q .non H', rt := Q } (start N vs) H) :
    FnOk P w K mg base CX (k + 1) f (PySem.W.fnOf name qual params body scope dV kV doc pm an cdv ct) ps sp := by
  refine ⟨len, fun A outer s H args us vs Q E hr e0 hb r hsp => ?_⟩
  have hl := len _ _ _ _ hsp
  have KX : K.In s.heap := e0.mod.kin.keeps fun b o e => (e0.bs b o e).1
  have lim : s.heap.NoLimit := e0.mod.nolimit.keeps fun b o e => (e0.bs b o e).1
  have hkind : ∀ y ∈ ps.zip us, scope.names.lookup y.1 = some .local ∨ (scope.names.lookup y.1 = some .cell ∧ ((cellsFrom (s.heap.objs.size + 1) scope.names []).lookup y.1).isSome = true) := fun ⟨n, v⟩ hy => by
    rcases S.par n (List.of_mem_zip hy).1 with q | q
    · exact .inl q
    · exact .inr ⟨q, PySem.W.cellsFrom_some _ _ _ (.inl q)⟩
  refine codeAny_call_function hr.depth (KX _ _ lk) rfl S.co S.gen rfl (PySem.W.codeRec_of KX hcd) (hb _ _ _ _ ?_)
  refine wpAny_newFunctionEnv_cells S.kind hkind fun env he s1 x => ?_
  subst he
  refine ⟨lim.keeps x.toInCall.keep, codeAny_func ?_⟩
  obtain ⟨t, ht, hq⟩ := hbody A outer s H vs Q E (hr.deeper _) hsp
  have I : Inv (cxOf CX P w K mg base N qual scope f cdv A outer s H E) [] (start N vs) H s1 := inv_start S hr.hd e0 hl r x
  refine wpAny_mono (ht [] s1 (start N vs) H _ I hq) (fun fl s' hs => ?_) fun e s' hs => hs
  have fin : ∀ {σ' : St} {H' : Hp} {v : V} {u : Value}, Inv (cxOf CX P w K mg base N qual scope f cdv A outer s H E) [] σ' H' s' → RelV v u → Q v H' → CE outer P w H s Q u s' :=
    fun {σ' H' v u} J rv q => ⟨v, H', J.os, J.bare, J.base, J.hok, rv, q⟩
  cases fl with
  | ret u =>
    obtain ⟨v, σ', H', J, rv, q⟩ := hs
    exact fin J rv q
  | next =>
    obtain ⟨σ', H', J, q⟩ := hs
    exact fin (v := V.non) (u := Value.none) J rfl q
  | brk =>
    obtain ⟨_, _, _, q⟩ := hs
    exact False.elim q
  | cont =>
    obtain ⟨_, _, _, q⟩ := hs
    exact False.elim q
end L2
namespace L2
open PySem PySem.Spec PyProof.Rows
section
variable {X : Cx} {x : Str} {p pos : Pos} {e : Expr} {es : List Expr} {t : TA} {id T : String} {r : List V → Hp → VK → Prop}
noncomputable def tCB (r : List V → Hp → VK → Prop) (t : TA) : TE := fun σ H Q => t σ H fun vs H1 => r vs H1 Q
theorem pe_callB (hc : CallR X (.builtin id) r) (hg : Gl X x) (hm : X.mg x = none) (hv : bootBuiltins x = some (.builtin id)) (ha : PA X (e :: es) t) (hn : x ≠ "__name__" := by decide) (hdb : (x == ("__debug__" : Str)) = false := by decide)
    (he : starEach (e :: es) X.env = (false, eval e X.env) :: starEach es X.env := by rfl) (hpl : (backTo pos (starEach es X.env)).any (·.1) = false := by rfl) : PE X (.Call (.Name x p) (e :: es) [] pos) (tCB r t) := by
  intro pins s σ H Q I h
  refine wpAny_Call_Name_kw (ld_blt I hg hm hv ?_ hn hdb)
  exact PyProof.Rows.callWith_builtin1 (thn (ha pos pins s σ H _ I h) fun us s1 ⟨vs, H1, I1, r1, q1⟩ => hc pins s1 σ H1 vs us Q I1 r1 q1) he hpl
theorem pe_callTy (hc : CallR X (.type T) r) (hg : Gl X x) (hm : X.mg x = none) (hv : bootBuiltins x = some (.type T)) (ha : PA X (e :: es) t) (hn : x ≠ "__name__" := by decide) (hdb : (x == ("__debug__" : Str)) = false := by decide)
    (he : starEach (e :: es) X.env = (false, eval e X.env) :: starEach es X.env := by rfl) (hpl : (backTo pos (starEach es X.env)).any (·.1) = false := by rfl) : PE X (.Call (.Name x p) (e :: es) [] pos) (tCB r t) := by
  intro pins s σ H Q I h
  refine wpAny_Call_Name_kw (ld_blt I hg hm hv ?_ hn hdb)
  exact PyProof.Rows.callWith_type1 (thn (ha pos pins s σ H _ I h) fun us s1 ⟨vs, H1, I1, r1, q1⟩ => hc pins s1 σ H1 vs us Q I1 r1 q1) he hpl
end
end L2
namespace HT
open PySem PyProof.Rows
section
open PySem.SeqAt
open PySem.AutoSeq1 (wpAny_loadPart')
open PySem.MeetsSeq PySem.MeetsSeq2 PySem.MeetsSeq3
end
section
variable {prog : Program} {w : World} {A : Around} {E : Value → Shared → Prop} {s : Shared}
noncomputable def sIx (n d : Nat) : Option Int → Nat
  | none => d
  | some v => if v < 0 then (v + (n : Int)).toNat else min v.toNat n
theorem sIx_none (n d : Nat) : sIx n d none = d := rfl
theorem sIx_nat (n d k : Nat) : sIx n d (some (k : Int)) = min k n := by
  show (if (k : Int) < 0 then ((k : Int) + (n : Int)).toNat else min (k : Int).toNat n) = min k n
  rw [if_neg (by omega), Int.toNat_natCast]
end
end HT
namespace L2
open PySem PySem.Spec PyProof.Rows
noncomputable abbrev TO := St → Hp → (Option Int → Hp → Prop) → Prop
noncomputable def PO (X : Cx) (e : Option Expr) (t : TO) : Prop :=
  ∀ (pins : List (Addr × Obj)) (s : Shared) (σ : St) (H : Hp) (Q : Option Int → Hp → Prop), Inv X pins σ H s → t σ H Q →
    wpAny (model X.prog X.w) X.A (evalPart e X.env) (fun u s' => ∃ o H', Inv X pins σ H' s' ∧ IsPart u o ∧ Q o H') X.xe s
noncomputable def tNoPart : TO := fun _ H Q => Q none H
noncomputable def tPart (t : TE) : TO := fun σ H Q => t σ H fun x H1 => ∃ i, x = .int i ∧ Q (some i) H1
theorem intsAre_of {ns : List Int} : ∀ {us : List Value}, Vals (ns.map V.int) us → IntsAre us ns := by
  induction ns with
  | nil => intro us r; rw [List.map_nil] at r; cases r; exact .nil
  | cons n ns ih =>
    intro us r
    rw [List.map_cons] at r
    cases r with
    | cons r1 r2 =>
      obtain ⟨t, e⟩ := r1
      subst e
      exact .cons n t (ih r2)
section
variable {X : Cx} {e : Expr} {te : TE} {lo hi : Option Expr} {tl th : TO} {pos p2 : Pos}
theorem po_none : PO X none tNoPart := by
  intro pins s σ H Q I h
  rw [evalPart_none]
  exact wpAny_pure ⟨none, H, I, .none, h⟩
theorem po_some (h : PE X e te) : PO X (some e) (tPart te) := by
  intro pins s σ H Q I hw
  rw [evalPart_some]
  refine thn (h pins s σ H _ I hw) fun u s1 ⟨x, H1, I1, r1, q1⟩ => ?_
  obtain ⟨i, rfl, q⟩ := q1
  obtain ⟨t, rfl⟩ := r1
  exact ⟨some i, H1, I1, .int i t, q⟩
noncomputable def SlR (X : Cx) (r : V → Option Int → Option Int → Hp → VK → Prop) : Prop :=
  ∀ (pins : List (Addr × Obj)) (s : Shared) (σ : St) (H : Hp) (x : V) (v vl vu : Value) (lo hi : Option Int) (sl : Addr) (Q : VK), Inv X pins σ H s → RelV x v → s.heap.IsSliceOf sl vl vu .none → IsPart vl lo → IsPart vu hi → r x lo hi H Q →
    ∃ T id, typeLookup (.type T) "__getitem__" = pure (some (.builtin id)) ∧ s.TypeIs v T ∧ wpAny (model X.prog X.w) X.A (getItem v (.ref sl)) (EP X pins σ Q) X.xe s
noncomputable def tSl (r : V → Option Int → Option Int → Hp → VK → Prop) (te : TE) (tl th : TO) : TE := fun σ H Q => te σ H fun x H1 => tl σ H1 fun l H2 => th σ H2 fun u H3 => r x l u H3 Q
theorem pe_slice {r : V → Option Int → Option Int → Hp → VK → Prop} (hr : SlR X r) (he : PE X e te) (hl : PO X lo tl) (hu : PO X hi th) : PE X (.Subscript e (.Slice lo hi none p2) pos) (tSl r te tl th) := by
  intro pins s σ H Q I h
  refine Subscript_ (thn (he pins s σ H _ I h) fun v s1 ⟨x, H1, I1, r1, q1⟩ => ?_)
  refine wpAny_Slice (thn (hl pins s1 σ H1 _ I1 q1) fun vl s2 ⟨l, H2, I2, pl, q2⟩ => thn (hu pins s2 σ H2 _ I2 q2) fun vu s3 ⟨u, H3, I3, pu, q3⟩ => ?_)
  rw [evalPart_none]
  refine wpAny_pure ?_
  have I4 : Inv X pins σ H3 { s3 with heap := s3.heap.push { cls := .type "slice", data := .fields #[vl, vu, .none] } } := I3.kept (t' := s3.toks) fun b ob q => Heap.get?_push_of_some _ q
  obtain ⟨T, id, hT, ht, hg⟩ := hr pins { s3 with heap := s3.heap.push { cls := .type "slice", data := .fields #[vl, vu, .none] } } σ H3 x v vl vu l u s3.heap.objs.size Q I4 r1 (Heap.IsSliceOf.new ..) pl pu q3
  show wpAny (model X.prog X.w) X.A (subscriptTail e (.Slice lo hi none p2) v (.ref s3.heap.objs.size)) (EP X pins σ Q) X.xe { s3 with heap := s3.heap.push { cls := .type "slice", data := .fields #[vl, vu, .none] } }
  exact tail_any (ops := [.ref s3.heap.objs.size, v]) ht hT hg (by with_unfolding_all rfl)
noncomputable def cutV (xs : List V) (lo hi : Option Int) : List V := (xs.drop (HT.sIx xs.length 0 lo)).take (HT.sIx xs.length xs.length hi - HT.sIx xs.length 0 lo)
theorem cutV_length (xs : List V) (lo hi : Option Int) : (cutV xs lo hi).length ≤ xs.length := by
  unfold cutV
  rw [List.length_take, List.length_drop]
  omega
end
end L2
namespace L2
open PySem PySem.Spec PyProof.Rows
noncomputable def ixN (n : Nat) (i : Int) : Option Nat := if 0 ≤ i then (if i < n then some i.toNat else none) else if -(n : Int) ≤ i then some (i + n).toNat else none
noncomputable def atI {α : Type} (xs : List α) (i : Int) : Option α := (ixN xs.length i).bind fun j => xs[j]?
theorem ixN_seq {n : Nat} {i : Int} {j : Nat} (h : ixN n i = some j) : seqIndex? i n = some j ∧ j < n ∧ -(n : Int) ≤ i ∧ i < n := by
  unfold ixN at h
  by_cases h0 : 0 ≤ i
  · rw [if_pos h0] at h
    by_cases h1 : i < n
    · rw [if_pos h1] at h
      have e : i.toNat = j := Option.some.inj h
      exact ⟨by rw [seqIndex_of h0 h1, e], by omega, by omega, h1⟩
    · rw [if_neg h1] at h; cases h
  · rw [if_neg h0] at h
    by_cases h1 : -(n : Int) ≤ i
    · rw [if_pos h1] at h
      have e : (i + n).toNat = j := Option.some.inj h
      exact ⟨by rw [seqIndex_neg (by omega) h1, e], by omega, h1, by omega⟩
    · rw [if_neg h1] at h; cases h
theorem atI_get {α : Type} {xs : List α} {i : Int} {v : α} (h : atI xs i = some v) : ∃ j, seqIndex? i xs.length = some j ∧ xs[j]? = some v ∧ j < xs.length ∧ -(xs.length : Int) ≤ i ∧ i < xs.length := by
  unfold atI at h
  cases e : ixN xs.length i with
  | none => rw [e] at h; cases h
  | some j =>
    rw [e] at h
    obtain ⟨h1, h2, h3, h4⟩ := ixN_seq e
    exact ⟨j, h1, h, h2, h3, h4⟩
theorem atI_nat {α : Type} {xs : List α} {j : Nat} {v : α} (h : xs[j]? = some v) : atI xs (j : Int) = some v := by
  have hj : j < xs.length := (List.getElem?_eq_some_iff.mp h).1
  have e : ixN xs.length (j : Int) = some j := by
    unfold ixN
    rw [if_pos (by omega), if_pos (by omega)]; simp
  unfold atI; rw [e]; exact h
noncomputable def PlainIx (b : Expr) : Prop := ∀ o i, subscripted b false o i = operate [o, i] (getItem o i)
noncomputable def IxR (X : Cx) (r : R2) : Prop :=
  ∀ (value slice : Expr) (pins : List (Addr × Obj)) (s : Shared) (σ : St) (H : Hp) (x y : V) (v u : Value) (Q : VK), Inv X pins σ H s → RelV x v → RelV y u → r x y H Q →
    subscripted slice false v u = operate [v, u] (getItem v u) → wpAny (model X.prog X.w) X.A (subscriptTail value slice v u) (EP X pins σ Q) X.xe s
noncomputable def MtR (X : Cx) (id : String) (r : V → List V → Hp → VK → Prop) : Prop :=
  ∀ (pins : List (Addr × Obj)) (s : Shared) (σ : St) (H : Hp) (x : V) (xs : List V) (v : Value) (us : List Value) (Q : VK), Inv X pins σ H s → RelV x v → Vals xs us → r x xs H Q →
    wpAny (model X.prog X.w) X.A (call (.builtin id) (v :: us)) (EP X pins σ Q) X.xe s
section
variable {X : Cx} {a b : Expr} {ta tb : TE} {pos : Pos}
theorem pe_ix {r : R2} (hr : IxR X r) (ha : PE X a ta) (hb : PE X b tb) (hs : PlainIx b) : PE X (.Subscript a b pos) (tOp r ta tb) := by
  intro pins s σ H Q I h
  exact Subscript_ (binT ha hb I h fun v u s2 x y H2 I2 rx ry q => hr a b pins s2 σ H2 x y v u Q I2 rx ry q (hs _ _))
noncomputable def rIxL (K : PySem.W.Frag) : R2 := fun x y H Q => ∃ p xs i v, x = .ref p ∧ y = .int i ∧ SqL K H p xs ∧ atI xs i = some v ∧ Q v H
noncomputable def rIxT (K : PySem.W.Frag) : R2 := fun x y H Q => ∃ p xs i v, x = .ref p ∧ y = .int i ∧ SqT K H p xs ∧ atI xs i = some v ∧ Q v H
noncomputable def rIxS : R2 := fun x y H Q => ∃ z i c, x = .str z ∧ y = .int i ∧ z.length ≤ sizeLine ∧ atI z.cps.toList i = some c ∧ Q (.str ⟨#[c]⟩) H
theorem ix_list : IxR X (rIxL X.K) := by
  intro value slice pins s σ H x y v u Q I rx ry h hs
  obtain ⟨p, xs, i, z, rfl, rfl, hq, he, q⟩ := h
  cases rx
  obtain ⟨t, rfl⟩ := ry
  obtain ⟨its, r, pl, hz⟩ := I.list hq
  obtain ⟨j, h1, h2, h3, h4, h5⟩ := atI_get he
  obtain ⟨w, ew, rw'⟩ := r.get h2
  have hl := r.length
  have hn := line63
  have fin : EP X pins σ Q w s := ⟨z, H, I, rw', q⟩
  by_cases h0 : 0 ≤ i
  · have hj : i.toNat = j := by
      rw [seqIndex_of h0 h5] at h1
      exact Option.some.inj h1
    exact item_listR pl.isList h0 (by omega) (by rw [hj]; simpa using ew) fin hs
  · have hj : (i + (its.toArray.size : Int)).toNat = j := by
      rw [seqIndex_neg (by omega) h4] at h1
      rw [List.size_toArray, ← hl]
      exact Option.some.inj h1
    exact subscriptTail_builtinR (x := w) pl.isList.typeIs slot_list_getitem.lookup
      (wpAny_getItem_list_neg (Q := fun r s' => r = w ∧ EP X pins σ Q r s') pl.isList (by omega) (by rw [List.size_toArray] <;> omega) (by omega) (by rw [hj]; simpa using ew) ⟨rfl, fin⟩) hs
theorem ix_tup : IxR X (rIxT X.K) := by
  intro value slice pins s σ H x y v u Q I rx ry h hs
  obtain ⟨p, xs, i, z, rfl, rfl, hq, he, q⟩ := h
  cases rx
  obtain ⟨t, rfl⟩ := ry
  obtain ⟨its, r, pl, hz⟩ := I.tuple hq
  obtain ⟨j, h1, h2, h3, h4, h5⟩ := atI_get he
  obtain ⟨w, ew, rw'⟩ := r.get h2
  have hl := r.length
  have hn := line63
  have fin : EP X pins σ Q w s := ⟨z, H, I, rw', q⟩
  exact subscriptTail_builtinR (x := w) pl.typeIs slot_tuple_getitem.lookup
    (getItem_tuple (j := j) (Q := fun r s' => r = w ∧ EP X pins σ Q r s') pl (by omega) (by omega) (by rw [List.size_toArray, ← hl]; exact h1) (by simpa using ew) ⟨rfl, fin⟩) hs
theorem ix_str : IxR X rIxS := by
  intro value slice pins s σ H x y v u Q I rx ry h hs
  obtain ⟨z, i, c, rfl, rfl, hz, he, q⟩ := h
  obtain ⟨t, rfl⟩ := rx
  obtain ⟨t', rfl⟩ := ry
  obtain ⟨j, h1, h2, h3, h4, h5⟩ := atI_get he
  have hl : z.cps.toList.length = z.length := by simp [Str.length]
  rw [hl] at h1 h4 h5
  have hn := line63
  exact tail_any (typeIs_str s z t) slot_str_getitem.lookup (getItem_str (c := c) (by
    have e1 : decide (i < -(2 ^ 63 : Int)) = false := decide_eq_false (by omega)
    have e2 : decide (i ≥ 2 ^ 63) = false := decide_eq_false (by omega)
    rw [e1, e2, Bool.or_false]) (by rw [h1]; simpa using h2) ⟨.str ⟨#[c]⟩, H, I.tok _, ⟨_, rfl⟩, q⟩) hs
theorem slice_bounds (lo hi : Option Int) (n : Nat) : (sliceBounds lo hi none n).1 = ((HT.sIx n 0 lo : Nat) : Int) ∧ (sliceBounds lo hi none n).2.1 = ((HT.sIx n n hi : Nat) : Int) ∧ (sliceBounds lo hi none n).2.2 = 1 := by
  refine ⟨?_, ?_, rfl⟩
  · cases lo with
    | none => simp [sliceBounds, HT.sIx]
    | some i =>
      simp only [sliceBounds, HT.sIx, Option.getD_none, show (1 : Int) > 0 by decide, if_true]
      by_cases h : i < 0
      · simp only [h, if_true] <;> omega
      · simp only [h, if_false] <;> omega
  · cases hi with
    | none => simp [sliceBounds, HT.sIx]
    | some i =>
      simp only [sliceBounds, HT.sIx, Option.getD_none, show (1 : Int) > 0 by decide, if_true]
      by_cases h : i < 0
      · simp only [h, if_true] <;> omega
      · simp only [h, if_false] <;> omega
theorem slicePick_cut (its : List Value) (lo hi : Option Int) : slicePick its.toArray lo hi none = ((its.drop (HT.sIx its.length 0 lo)).take (HT.sIx its.length its.length hi - HT.sIx its.length 0 lo)).toArray := by
  obtain ⟨h1, h2, h3⟩ := slice_bounds lo hi its.toArray.size
  unfold slicePick
  rw [h1, h2, h3]
  simp only [sliceRange_one, pick_run, List.size_toArray] <;> rfl
noncomputable def rSlL (K : PySem.W.Frag) : V → Option Int → Option Int → Hp → VK → Prop := fun x lo hi H Q => ∃ a xs, x = .ref a ∧ SqL K H a xs ∧ ∀ p, H p = none → Q (.ref p) (upd H p (.lst (cutV xs lo hi)))
theorem sl_list : SlR X (rSlL X.K) := by
  intro pins s σ H x v vl vu lo hi sl Q I rx hs pl pu h
  obtain ⟨a, xs, rfl, hx, q⟩ := h
  cases rx
  obtain ⟨its, r, ht, hz⟩ := I.list hx
  have hlen := r.length
  refine ⟨"list", _, slot_list_getitem.lookup, ht.isList.typeIs, ?_⟩
  refine wpAny_getItem_list_slice ht.isList hs pl pu .none (by simp) ?_ (by rw [List.size_toArray] <;> omega)
  rw [slicePick_cut, ← hlen]
  refine ⟨.ref s.heap.objs.size, _, I.laid (t' := s.toks) (o := .lst (cutV xs lo hi)) (fun b ob q => Heap.get?_push_of_some _ q) (Nat.le_refl _) ?_, rfl, q _ (I.hok.fresh (Nat.le_refl _))⟩
  exact ⟨Nat.le_trans (cutV_length xs lo hi) hz, _, 0, (r.drop (HT.sIx xs.length 0 lo)).take (HT.sIx xs.length xs.length hi - HT.sIx xs.length 0 lo), Heap.get?_push_size _ rfl⟩
noncomputable def flatV : V → Bool
  | .non => true
  | .bl _ => true
  | .int _ => true
  | .str _ => true
  | _ => false
noncomputable def eqV : V → V → Bool
  | .non, .non => true
  | .bl a, .bl b => a == b
  | .bl a, .int b => (if a then 1 else 0) == b
  | .int a, .bl b => a == (if b then 1 else 0)
  | .int a, .int b => a == b
  | .str a, .str b => a == b
  | _, _ => false
theorem eqAt_V {A : Around} {s : Shared} {y x : V} {u v : Value} (ry : RelV y u) (rx : RelV x v) (fy : flatV y = true) (fx : flatV x = true) : SeqAt.EqAt A s u v (eqV y x) := by
  cases y with
  | non =>
    cases ry
    cases x with
    | non => cases rx; exact SeqAt.EqAt.same _
    | bl b => cases rx; exact SeqAt.EqAt.none_bool b
    | int b => obtain ⟨t, rfl⟩ := rx; exact SeqAt.EqAt.none_int b t
    | str b => obtain ⟨t, rfl⟩ := rx; exact SeqAt.EqAt.none_str b t
    | _ => exact absurd (show false = true from fx) Bool.false_ne_true
  | bl a =>
    cases ry
    cases x with
    | non => cases rx; exact SeqAt.EqAt.bool_none a
    | bl b => cases rx; exact SeqAt.EqAt.bool_bool a b
    | int b => obtain ⟨t, rfl⟩ := rx; exact SeqAt.EqAt.bool_int a b t
    | str b => obtain ⟨t, rfl⟩ := rx; exact SeqAt.EqAt.bool_str a b t
    | _ => exact absurd (show false = true from fx) Bool.false_ne_true
  | int a =>
    obtain ⟨t', rfl⟩ := ry
    cases x with
    | non => cases rx; exact SeqAt.EqAt.int_none a t'
    | bl b => cases rx; exact SeqAt.EqAt.int_bool a t' b
    | int b => obtain ⟨t, rfl⟩ := rx; exact SeqAt.EqAt.int_int a t' b t
    | str b => obtain ⟨t, rfl⟩ := rx; exact SeqAt.EqAt.int_str a t' b t
    | _ => exact absurd (show false = true from fx) Bool.false_ne_true
  | str a =>
    obtain ⟨t', rfl⟩ := ry
    cases x with
    | non => cases rx; exact SeqAt.EqAt.str_none a t'
    | bl b => cases rx; exact SeqAt.EqAt.str_bool a t' b
    | int b => obtain ⟨t, rfl⟩ := rx; exact SeqAt.EqAt.str_int a t' b t
    | str b => obtain ⟨t, rfl⟩ := rx; exact SeqAt.EqAt.str_str a t' b t
    | _ => exact absurd (show false = true from fx) Bool.false_ne_true
  | _ => exact absurd (show false = true from fy) Bool.false_ne_true
noncomputable def eqU (x : V) (u : Value) : Bool := match u with
  | .none => eqV .non x
  | .bool b => eqV (.bl b) x
  | .int i _ => eqV (.int i) x
  | .str z _ => eqV (.str z) x
  | _ => false
theorem eqU_of {x y : V} {u : Value} (r : RelV y u) (f : flatV y = true) : eqU x u = eqV y x := by
  cases y with
  | non => cases r; rfl
  | bl b => cases r; rfl
  | int i => obtain ⟨t, rfl⟩ := r; rfl
  | str z => obtain ⟨t, rfl⟩ := r; rfl
  | _ => exact absurd (show false = true from f) Bool.false_ne_true
theorem any_eqU {x : V} : ∀ {xs : List V} {us : List Value}, Vals xs us → xs.all flatV = true → us.any (eqU x) = xs.any fun y => eqV y x
  | _, _, .nil, _ => rfl
  | y :: xs, u :: us, .cons r t, f => by
    rw [List.all_cons, Bool.and_eq_true] at f
    rw [List.any_cons, List.any_cons, eqU_of r f.1, any_eqU t f.2]
theorem mem_eqAt {A : Around} {s : Shared} {x : V} {v : Value} (rx : RelV x v) (fx : flatV x = true) : ∀ {xs : List V} {us : List Value}, Vals xs us → xs.all flatV = true → ∀ u ∈ us, SeqAt.EqAt A s u v (eqU x u)
  | _, _, .nil, _ => fun u hu => by cases hu
  | y :: xs, u :: us, .cons r t, f => fun u' hu => by
    rw [List.all_cons, Bool.and_eq_true] at f
    rcases List.mem_cons.mp hu with rfl | hu
    · rw [eqU_of r f.1]; exact eqAt_V r rx f.1 fx
    · exact mem_eqAt rx fx t f.2 u' hu
noncomputable def inV (x : V) (xs : List V) : Bool := xs.any fun y => eqV y x
noncomputable def rIn (K : PySem.W.Frag) (neg : Bool) : R2 := fun x y H Q => ∃ p xs, y = .ref p ∧ (SqL K H p xs ∨ SqT K H p xs) ∧ flatV x = true ∧ xs.all flatV = true ∧ Q (.bl (if neg then !inV x xs else inV x xs)) H
theorem op_in_seq : OpR X (compareOp .In) (rIn X.K false) := by
  intro pins s σ H x y v u Q I rx ry h
  obtain ⟨p, xs, rfl, hq, fx, fs, q⟩ := h
  cases ry
  rcases hq with hq | hq
  · obtain ⟨its, r, pl, hz⟩ := I.list hq
    refine SeqAt.in_listAt (eqU x) pl.isList (fun w hw => mem_eqAt rx fx r fs w (by simpa using hw)) ⟨.bl _, H, I, rfl, ?_⟩
    rw [show its.toArray.any (eqU x) = its.any (eqU x) by simp, any_eqU r fs]
    exact q
  · obtain ⟨its, r, pl, hz⟩ := I.tuple hq
    refine SeqAt.in_tupleAt (eqU x) pl (fun w hw => mem_eqAt rx fx r fs w (by simpa using hw)) ⟨.bl _, H, I, rfl, ?_⟩
    rw [show its.toArray.any (eqU x) = its.any (eqU x) by simp, any_eqU r fs]
    exact q
theorem op_notIn_seq : OpR X (compareOp .NotIn) (rIn X.K true) := by
  intro pins s σ H x y v u Q I rx ry h
  obtain ⟨p, xs, rfl, hq, fx, fs, q⟩ := h
  cases ry
  rcases hq with hq | hq
  · obtain ⟨its, r, pl, hz⟩ := I.list hq
    refine SeqAt.notIn_listAt (eqU x) pl.isList (fun w hw => mem_eqAt rx fx r fs w (by simpa using hw)) ⟨.bl _, H, I, rfl, ?_⟩
    rw [show its.toArray.any (eqU x) = its.any (eqU x) by simp, any_eqU r fs]
    exact q
  · obtain ⟨its, r, pl, hz⟩ := I.tuple hq
    refine SeqAt.notIn_tupleAt (eqU x) pl (fun w hw => mem_eqAt rx fx r fs w (by simpa using hw)) ⟨.bl _, H, I, rfl, ?_⟩
    rw [show its.toArray.any (eqU x) = its.any (eqU x) by simp, any_eqU r fs]
    exact q
theorem call_len_seq : CallR X (.builtin "len") (fun xs H Q => ∃ p ys, xs = [.ref p] ∧ (SqL X.K H p ys ∨ SqT X.K H p ys) ∧ Q (.int ys.length) H) := by
  intro pins s σ H xs us Q I r h
  obtain ⟨p, ys, rfl, hq, q⟩ := h
  obtain ⟨u, rfl, rx⟩ := vals1 r
  cases rx
  have hn := line63
  rcases hq with hq | hq
  · obtain ⟨its, r', pl, hz⟩ := I.list hq
    have hlen := r'.length
    exact Calls.call_len_list pl.isList (by simp only [List.size_toArray] <;> omega) ⟨.int ys.length, H, I.tok _, ⟨s.toks + 1, by rw [List.size_toArray, hlen]⟩, q⟩
  · obtain ⟨its, r', pl, hz⟩ := I.tuple hq
    have hlen := r'.length
    exact len_tuple pl (by simp only [List.size_toArray] <;> omega) ⟨.int ys.length, H, I.tok _, ⟨s.toks + 1, by rw [List.size_toArray, hlen]⟩, q⟩
theorem call_list_of : CallR X (.type "list") (fun xs H Q => ∃ p ys, xs = [.ref p] ∧ (SqL X.K H p ys ∨ SqT X.K H p ys) ∧ ∀ l, H l = none → Q (.ref l) (upd H l (.lst ys))) := by
  intro pins s σ H xs us Q I r h
  obtain ⟨p, ys, rfl, hq, q⟩ := h
  obtain ⟨u, rfl, rx⟩ := vals1 r
  cases rx
  have fin : ∀ (its : List Value), Vals ys its → ys.length ≤ sizeLine → ∀ (h' : Heap) (c' : Nat), (∀ b o', s.heap.get? b = some o' → h'.get? b = some o') →
      h'.get? s.heap.objs.size = some { cls := .type "list", dict := none, data := .seq its.toArray c', slots := #[] } → EP X pins σ Q (.ref s.heap.objs.size) { s with heap := h' } := fun its r' hz h' c' kp e =>
    ⟨.ref s.heap.objs.size, _, I.laid (t' := s.toks) kp (Nat.le_refl _) (show ObjOk X.prog X.w _ h' _ (.lst ys) from ⟨hz, its, c', r', e⟩), rfl, q _ (I.hok.fresh (Nat.le_refl _))⟩
  rcases hq with hq | hq
  · obtain ⟨its, r', pl, hz⟩ := I.list hq
    have hlen := r'.length
    obtain ⟨o, ho, hc, n, hd⟩ := pl.isList
    exact call_list_seq p (.inl rfl) ho hc hd (fun h' c' kp e => fin its r' hz h' c' kp e) (by simp only [List.size_toArray] <;> omega)
  · obtain ⟨its, r', pl, hz⟩ := I.tuple hq
    have hlen := r'.length
    obtain ⟨o, ho, hc, n, hd⟩ := pl
    exact call_list_seq p (.inr rfl) ho hc hd (fun h' c' kp e => fin its r' hz h' c' kp e) (by simp only [List.size_toArray] <;> omega)
theorem call_tuple_of : CallR X (.type "tuple") (fun xs H Q => ∃ p ys, xs = [.ref p] ∧ ((SqL X.K H p ys ∧ ∀ l, H l = none → Q (.ref l) (upd H l (.tup ys))) ∨ (SqT X.K H p ys ∧ Q (.ref p) H))) := by
  intro pins s σ H xs us Q I r h
  obtain ⟨p, ys, rfl, h⟩ := h
  obtain ⟨u, rfl, rx⟩ := vals1 r
  cases rx
  rcases h with ⟨hq, q⟩ | ⟨hq, q⟩
  · obtain ⟨its, r', pl, hz⟩ := I.list hq
    have hlen := r'.length
    refine call_tuple_list pl.isList (fun h' kp => ?_) (by simp only [List.size_toArray] <;> omega)
    have I1 : Inv X pins σ H { s with heap := h' } := I.kept (t' := s.toks) kp
    have I2 : Inv X pins σ (upd H h'.objs.size (.tup ys)) { s with heap := h'.push { cls := .type "tuple", data := .seq its.toArray } } :=
      I1.laid (t' := s.toks) (fun b o e => Heap.get?_push_of_some _ e) (Nat.le_refl _) (show ObjOk X.prog X.w _ _ _ (.tup ys) from ⟨hz, its, r', IsTup.new _ _⟩)
    exact ⟨.ref h'.objs.size, _, I2, rfl, q _ (I1.hok.fresh (Nat.le_refl _))⟩
  · obtain ⟨its, r', pl, hz⟩ := I.tuple hq
    exact call_tuple_same pl ⟨.ref p, H, I, rfl, q⟩
noncomputable def tyV (K : PySem.W.Frag) (T : String) (x : V) (H : Hp) : Prop := match x with
  | .str _ => T = "str"
  | .int _ => T = "int"
  | .ref p => (T = "list" ∧ ∃ xs, SqL K H p xs) ∨ (T = "tuple" ∧ ∃ o, K.lookup p = some o ∧ o.cls = .type "tuple" ∧ o.dict = none) ∨
      (T = "dict" ∧ ((∃ kvs, H p = some (.dK kvs)) ∨ ∃ kvs, H p = some (.dT kvs))) ∨ (T = "set" ∧ ∃ S n, H p = some (.set S n))
  | _ => False
theorem tyV_is {pins : List (Addr × Obj)} {σ : St} {H : Hp} {s : Shared} {T : String} {x : V} {v : Value} (I : Inv X pins σ H s) (r : RelV x v) (ty : tyV X.K T x H) :
    s.TypeIs v T ∧ ∀ a, v = .ref a → ∃ ob, s.heap.get? a = some ob ∧ ob.dict = none := by
  cases x with
  | str z =>
    obtain ⟨t, rfl⟩ := r
    cases (show T = "str" from ty)
    exact ⟨typeIs_str s z t, fun _ e => nomatch e⟩
  | int i =>
    obtain ⟨t, rfl⟩ := r
    cases (show T = "int" from ty)
    exact ⟨typeIs_int s i t, fun _ e => nomatch e⟩
  | ref p =>
    cases r
    rcases ty with ⟨rfl, xs, hq⟩ | ⟨rfl, o, hk, hc, hd⟩ | ⟨rfl, hk⟩ | ⟨rfl, S, n, hk⟩
    · obtain ⟨its, _, pl, _⟩ := I.list hq
      refine ⟨pl.isList.typeIs, fun a e => ?_⟩
      cases e
      obtain ⟨o, n, e, c, hd, _⟩ := pl
      exact ⟨o, e, hd⟩
    · refine ⟨⟨o, I.kIn p o hk, hc⟩, fun a e => ?_⟩
      cases e
      exact ⟨o, I.kIn _ o hk, hd⟩
    · have z : ∃ o, s.heap.get? p = some o ∧ o.ExactDict := by
        rcases hk with ⟨kvs, hk⟩ | ⟨kvs, hk⟩
        · obtain ⟨_, _, _, _, o, _, _, e, ex, _⟩ := I.hok p _ hk
          exact ⟨o, e, ex⟩
        · obtain ⟨_, _, _, _, o, _, _, e, ex, _⟩ := I.hok p _ hk
          exact ⟨o, e, ex⟩
      obtain ⟨o, e, ex⟩ := z
      refine ⟨⟨o, e, ex.1⟩, fun a e2 => ?_⟩
      cases e2
      exact ⟨o, e, ex.2.1⟩
    · obtain ⟨o, _, _, _, e, ex, _⟩ := I.hok p _ hk
      refine ⟨⟨o, e, ex.1⟩, fun a e2 => ?_⟩
      cases e2
      exact ⟨o, e, ex.2.1⟩
  | _ => exact False.elim ty
noncomputable def tBM0 (K : PySem.W.Frag) (T : String) (r : V → List V → Hp → VK → Prop) (to : TE) : TE := fun σ H Q => to σ H fun x H1 => tyV K T x H1 ∧ r x [] H1 Q
noncomputable def tBM (K : PySem.W.Frag) (T : String) (r : V → List V → Hp → VK → Prop) (to : TE) (t : TA) : TE := fun σ H Q => to σ H fun x H1 => tyV K T x H1 ∧ t σ H1 fun xs H2 => r x xs H2 Q
variable {o e : Expr} {es : List Expr} {to : TE} {t : TA} {name : Str} {apos cpos : Pos} {T id : String} {r : V → List V → Hp → VK → Prop}
theorem pe_bm0 (pa : PlainAttrs T) (slot : Slot T name id) (hty : typeOf (.builtin id) = pure (.type "method_descriptor")) (hm : MtR X id r) (ho : PE X o to)
    (hbase : attributeBase o name X.env (eval o X.env) = eval o X.env := by rfl) (hline : (apos.endLine == cpos.line) = true := by rfl) : PE X (.Call (.Attribute o name apos) [] [] cpos) (tBM0 X.K T r to) := by
  intro pins s σ H Q I h
  refine wpAny_Call_method0_late hbase hline (thn (ho pins s σ H _ I h) fun v s1 ⟨x, H1, I1, r1, ty, q1⟩ => ?_)
  obtain ⟨h1, h2⟩ := tyV_is I1 r1 ty
  exact ⟨T, id, pa, slot, hty, h1, h2, Calls.callWith_builtin rfl (PySem.evalArgs_none (hm pins s1 σ H1 x [] v [] Q I1 r1 .nil q1))⟩
theorem pe_bm (pa : PlainAttrs T) (slot : Slot T name id) (hty : typeOf (.builtin id) = pure (.type "method_descriptor")) (hm : MtR X id r) (ho : PE X o to) (ha : PA X (e :: es) t)
    (hbase : attributeBase o name X.env (eval o X.env) = eval o X.env := by rfl)
    (hfew : ((backTo cpos (starEach (e :: es) X.env)).all (fun x => !x.1) && (backToKw cpos (keywordEach [] X.env)).all (fun x => x.1.isSome)
      && decide ((e :: es).length + ([] : List Keyword).length + (if ([] : List Keyword).isEmpty then 0 else 1) < 30)) = true := by rfl)
    (hline : (apos.endLine == cpos.line) = true := by rfl) (hs : starEach (e :: es) X.env = (false, eval e X.env) :: starEach es X.env := by rfl) (hplain : (backTo cpos (starEach es X.env)).any (·.1) = false := by rfl) :
    PE X (.Call (.Attribute o name apos) (e :: es) [] cpos) (tBM X.K T r to t) := by
  intro pins s σ H Q I h
  refine wpAny_Call_method_late hbase hfew hline rfl (thn (ho pins s σ H _ I h) fun v s1 ⟨x, H1, I1, r1, ty, q1⟩ => ?_)
  obtain ⟨h1, h2⟩ := tyV_is I1 r1 ty
  refine ⟨T, id, pa, slot, hty, h1, h2, ?_⟩
  have hA := ha cpos pins s1 σ H1 _ I1 q1
  rw [hs] at hA ⊢
  refine Calls.callWith_builtin (by show (false || (backTo cpos (starEach es X.env)).any (·.1)) = false; rw [hplain] <;> rfl) (Calls.evalArgs_plain ?_)
  exact thn hA fun us s2 ⟨vs, H2, I2, r2, q2⟩ => hm pins s2 σ H2 x vs v us Q I2 r1 r2 q2
end
end L2
namespace L2
open PySem PySem.Spec PyProof.Rows
noncomputable def MtM (X : Cx) (id : String) (r : V → List V → Hp → VK → Prop) : Prop :=
  ∀ (pins : List (Addr × Obj)) (s : Shared) (σ : St) (H : Hp) (x : V) (xs : List V) (v : Value) (us : List Value) (Q : VK), Inv X pins σ H s → RelV x v → Vals xs us → r x xs H Q →
    wpAny (model X.prog X.w) X.A (call (.builtin id) (v :: us)) (EP X pins σ Q) X.xe s
theorem Vals.one : ∀ {x : V} {us : List Value}, Vals [x] us → ∃ u, us = [u] ∧ RelV x u
  | _, _, .cons r .nil => ⟨_, rfl, r⟩
theorem Vals.zero : ∀ {us : List Value}, Vals [] us → us = []
  | _, .nil => rfl
theorem Vals.dropLast {xs : List V} {us : List Value} (h : Vals xs us) : Vals xs.dropLast us.dropLast := by
  induction h with
  | nil => exact .nil
  | cons r t ih =>
    cases t with
    | nil => exact .nil
    | cons q t' => exact .cons r ih
theorem erase_last {α : Type} (l : List α) : l.eraseIdx (l.length - 1) = l.dropLast := by
  induction l with
  | nil => rfl
  | cons a r ih =>
    cases r with
    | nil => rfl
    | cons b r =>
      have e : (a :: b :: r).length - 1 = ((b :: r).length - 1) + 1 := by
        have h1 : (a :: b :: r).length = r.length + 2 := rfl
        have h2 : (b :: r).length = r.length + 1 := rfl
        omega
      rw [e, List.eraseIdx_cons_succ, ih]
      all_goals rfl
section
variable {X : Cx} {pins : List (Addr × Obj)} {σ : St} {H : Hp} {s : Shared} {l b : Addr} {xs ys zs : List V}
theorem Inv.lset {its its' : List Value} {n : Nat} {f : Array Value → Array Value} {t' : Nat} (I : Inv X pins σ H s) (hH : H l = some (.lst xs))
    (e : s.heap.get? l = some { cls := .type "list", data := .seq its.toArray n }) (hf : f its.toArray = its'.toArray) (hv : Vals ys its') (hz : ys.length ≤ sizeLine) :
    Inv X pins σ (upd H l (.lst ys)) { s with heap := s.heap.update l (Obj.mapSeq f), toks := t' } := by
  have q := PySem.IsL.update e f
  rw [hf] at q
  refine I.write (x := l) (e := l) (by rw [hH]; exact trivial) (.inl rfl) (fun b' u hb hu => (Heap.get?_update_other s.heap (Obj.mapSeq f) (Ne.symm hb)).trans hu) ⟨_, q⟩ ?_
  exact ⟨hz, its', _, hv, q⟩
theorem Inv.lnew {its : List Value} {t' : Nat} (I : Inv X pins σ H s) (hv : Vals ys its) (hz : ys.length ≤ sizeLine) :
    Inv X pins σ (upd H s.heap.objs.size (.lst ys)) { s with heap := s.heap.push { cls := .type "list", data := .seq its.toArray }, toks := t' } :=
  I.laid (fun _ _ q => Heap.get?_push_of_some _ q) (Nat.le_refl _) ⟨hz, its, 0, hv, Heap.get?_push_size _ rfl⟩
theorem Inv.fresh (I : Inv X pins σ H s) : H s.heap.objs.size = none := I.hok.fresh (Nat.le_refl _)
theorem Inv.lstM (I : Inv X pins σ H s) (hH : H l = some (.lst xs)) : xs.length ≤ sizeLine ∧ ∃ (its : List Value) (n : Nat), Vals xs its ∧ xs.length = its.length ∧ s.heap.get? l = some { cls := .type "list", data := .seq its.toArray n } := by
  obtain ⟨z, its, n, r, e⟩ := I.hok l _ hH
  exact ⟨z, its, n, r, r.length, e⟩
theorem notLongL {n : Nat} (h : n ≤ sizeLine) : Builtin.List.listTooLong n = false := by
  unfold Builtin.List.listTooLong
  exact decide_eq_false (by omega)
end
section
variable {X : Cx}
noncomputable def rAppend : V → List V → Hp → VK → Prop := fun x vs H Q => ∃ l xs y, x = .ref l ∧ vs = [y] ∧ H l = some (.lst xs) ∧ xs.length < sizeLine ∧ Q .non (upd H l (.lst (xs ++ [y])))
theorem mt_append : MtM X "list.append" rAppend := by
  intro pins s σ H x vs v us Q I rx rv h
  obtain ⟨l, xs, y, rfl, rfl, hH, hz, q⟩ := h
  cases rx
  obtain ⟨u, rfl, ru⟩ := rv.one
  obtain ⟨z, its, n, r, hl, e⟩ := I.lstM hH
  refine call_meets F.slot_list_append ⟨_, e, rfl⟩ F.entry_list_append (F.args_list_append_2 _ _) (PySem.list_append l its.toArray n u (by rw [List.size_toArray]; omega)) ⟨e, ?_⟩
  refine ⟨.non, _, I.lset (its' := its ++ [u]) hH e (by simp) (r.append (.cons ru .nil)) ?_, rfl, q⟩
  rw [List.length_append, List.length_singleton]
  omega
noncomputable def rExtend : V → List V → Hp → VK → Prop := fun x vs H Q => ∃ l b xs zs, x = .ref l ∧ vs = [.ref b] ∧ H l = some (.lst xs) ∧ H b = some (.lst zs) ∧ xs.length + zs.length ≤ sizeLine ∧ Q .non (upd H l (.lst (xs ++ zs)))
theorem mt_extend : MtM X "list.extend" rExtend := by
  intro pins s σ H x vs v us Q I rx rv h
  obtain ⟨l, b, xs, zs, rfl, rfl, hH, hB, hz, q⟩ := h
  cases rx
  obtain ⟨u, rfl, ru⟩ := rv.one
  cases ru
  obtain ⟨z, its, n, r, hl, e⟩ := I.lstM hH
  obtain ⟨z2, its2, n2, r2, hl2, e2⟩ := I.lstM hB
  have hsz : its.toArray.size + its2.toArray.size ≤ sizeLine := by rw [List.size_toArray, List.size_toArray]; omega
  have hlong : ¬ (!its.toArray.isEmpty && Builtin.List.listTooLong (its.toArray.size + its2.toArray.size)) = true := by
    rw [notLongL hsz, Bool.and_false]
    exact Bool.false_ne_true
  refine call_meets F.slot_list_extend ⟨_, e, rfl⟩ F.entry_list_extend (F.args_list_extend_2 _ _)
    (AutoSeq1.list_extend_list_list_0 l its.toArray n b its2.toArray n2 hlong (by rw [List.size_toArray]; omega) (by omega)) ⟨e, e2, ?_⟩
  refine ⟨.non, _, I.lset (its' := its ++ its2) hH e (by simp) (r.append r2) ?_, rfl, q⟩
  rw [List.length_append]
  omega
noncomputable def rPop : V → List V → Hp → VK → Prop := fun x vs H Q => ∃ l xs y, x = .ref l ∧ vs = [] ∧ H l = some (.lst xs) ∧ xs[xs.length - 1]? = some y ∧ Q y (upd H l (.lst xs.dropLast))
theorem mt_pop : MtM X "list.pop" rPop := by
  intro pins s σ H x vs v us Q I rx rv h
  obtain ⟨l, xs, y, rfl, rfl, hH, hy, q⟩ := h
  cases rx
  have hus := rv.zero
  subst hus
  obtain ⟨z, its, n, r, hl, e⟩ := I.lstM hH
  obtain ⟨u, hu, ru⟩ := r.get hy
  have hy' : its.toArray[its.toArray.size - 1]? = some u := by
    show its.toArray[its.length - 1]? = some u
    rw [← Array.getElem?_toList, ← hl]
    exact hu
  refine call_meets F.slot_list_pop ⟨_, e, rfl⟩ F.entry_list_pop (F.args_list_pop_1 _) (MeetsSeq.list_pop_last l its.toArray n u hy' (by rw [List.size_toArray]; omega)) ⟨e, ?_⟩
  refine ⟨y, _, I.lset (its' := its.dropLast) hH e ?_ r.dropLast ?_, ru, q⟩
  · show its.toArray.eraseIdxIfInBounds (its.toArray.size - 1) = its.dropLast.toArray
    rw [List.size_toArray, List.eraseIdxIfInBounds_toArray, erase_last]
  · rw [List.length_dropLast]
    omega
noncomputable def rCat : R2 := fun x y H Q => ∃ l b xs zs, x = .ref l ∧ y = .ref b ∧ H l = some (.lst xs) ∧ H b = some (.lst zs) ∧ xs.length + zs.length ≤ sizeLine ∧ ∀ p, H p = none → Q (.ref p) (upd H p (.lst (xs ++ zs)))
theorem op_cat : OpR X (binaryOp .Add) rCat := by
  intro pins s σ H x y v u Q I rx ry h
  obtain ⟨l, b, xs, zs, rfl, rfl, hH, hB, hz, q⟩ := h
  cases rx
  cases ry
  obtain ⟨z, its, n, r, hl, e⟩ := I.lstM hH
  obtain ⟨z2, its2, n2, r2, hl2, e2⟩ := I.lstM hB
  refine PySem.P.add_list e e2 ?_ (by rw [List.size_toArray, List.size_toArray]; omega)
  have ea : its.toArray ++ its2.toArray = (its ++ its2).toArray := by simp
  rw [ea]
  exact ⟨.ref _, _, I.lnew (t' := s.toks) (r.append r2) (by rw [List.length_append]; omega), rfl, q _ I.fresh⟩
end
section
variable {prog : Program} {w : World} {A : Around} {E : Value → Shared → Prop} {s : Shared}
set_option maxRecDepth 100000 in
end
section
variable {X : Cx}
end
end L2
namespace Att
open PySem PySem.W PySem.Calls PyProof.Rows
theorem ints_of_wellAll {P : Params} {h : Heap} : ∀ (ns : List Int) (vs : List Value), WellAll P h vs (ns.map WData.int) → IntsAre vs ns := by
  intro ns
  induction ns with
  | nil =>
    intro vs w
    rw [List.map_nil] at w
    cases w
    exact .nil
  | cons n ns ih =>
    intro vs w
    rw [List.map_cons] at w
    cases w with
    | cons a b =>
      cases a
      exact .cons _ _ (ih _ b)
theorem script_of {l : OpenLaw} {n : Nat} (hn : l.most = some n) {P : Params} {h : Heap} {args : List WData} {vals : List Value}
    (hpre : l.row.toRowW.claim.pre args = true) (hwl : WellAll P h vals args) :
    ∃ a vs ns, vals = [Value.ref a] ∧ args = [WData.list (ns.map WData.int)] ∧ h.get? a = some { cls := .type "list", data := .seq vs.toArray } ∧ IntsAre vs ns ∧ ns.length ≤ n := by
  have hsh : WShape.hasAll [] args [.list .int] = true := (pre_splitW hpre).1
  have hc : l.pre.holds [] { args := args } = true := (pre_splitW hpre).2
  obtain ⟨d, r, rfl, h1, h2⟩ := hasAllW_cons hsh
  obtain rfl := hasAllW_nil h2
  obtain ⟨xs, rfl, h3⟩ := hasW_list h1
  obtain ⟨ns, rfl⟩ := items_int h3
  have hlen : ns.length ≤ n := by
    unfold OpenLaw.pre at hc
    have h4 : (WTm.not (.lt (.lit (.int (n : Int))) (.len (.arg 0)))).holds [] { args := [.list (ns.map .int)] } = true := by
      have h4 := (holds_andW hc).1
      rw [hn] at h4
      exact h4
    have h5 := condW_of h4 (w_not (w_lt w_lit (w_len_list (w_arg rfl))))
    rw [List.length_map] at h5
    refine Nat.le_of_not_lt fun q => ?_
    have q' : (n : Int) < ((ns.length : Nat) : Int) := by omega
    first
      | (rw [decide_eq_true q'] at h5; exact absurd h5 (by decide))
      | (simp at h5; omega)
  cases hwl with
  | cons w1 w2 =>
    cases w2
    cases w1 with
    | list ho hall => exact ⟨_, _, ns, rfl, rfl, ho, ints_of_wellAll ns _ hall, hlen⟩
theorem post_true (l : OpenLaw) (args : List WData) : l.row.toRowW.claim.post args (.bool true) args = true :=
  postW_of (r := l.row.toRowW) (X := (true == true))
    (show WShape.has [] (.bool true) .bool = true by first | rfl | decide | simp [WShape.has, WShape.arms, WShape.armsAll])
    (show (WTm.eq .res (.lit (.bool true))).value [] { args := args, res := some (.bool true), after := args } = some (.bool (true == true)) from w_eq_bool (w_res rfl) w_lit) rfl
theorem attach_call {l : OpenLaw} {n : Nat} {q : Program} {loose : List Str} {XP : (Str → Option Value) → Heap → Prop} {YP : World → Heap → Prop} {d : DefRec}
    (hn : l.most = some n) (hdf : d.params.defaults = [])
    (call : ∀ (w : World) (s₀ s₁ : Shared) (mg mb : Str → Option Value) (fa : Addr) (o : Obj) (pm cd doc : Value) (a : Addr) (vs : List Value) (ns : List Int),
      Ground q loose [] XP w s₀ mg mb s₁.heap → YP w s₁.heap →
      s₁.heap.get? fa = some o → o.data = .func (docDef d.name d.params d.body d.scope pm cd doc) → s₁.heap.CodeRec cd d.name → mg d.name = some (.ref fa) →
      s₁.heap.get? a = some { cls := .type "list", data := .seq vs.toArray } → IntsAre vs ns → ns.length ≤ n → s₁.gens = #[] →
      codeAny (model l.prog w) callerA (.call (.ref fa) ⟨[.ref a], []⟩) (fun r s' => r = .ok (.ret (.bool true)) ∧ OldK s₁.heap s'.heap ∧ s'.os = s₁.os ∧ AllBare s'.gens) s₁) :
    WalkO q loose XP YP l.row.toRowW d [] (fun f vs => PySem.call f vs) := by
  intro w s₀ s₁ mg mb G Y fa o pm cd doc dV kV ho hd hcd hD hmg hg args vals as hpre hlay hrd hwl hlo
  obtain rfl : dV = .none := Dflts.none hD hdf
  obtain rfl : kV = .none := Dflts.noKw hD
  obtain ⟨a, vs, ns, rfl, rfl, hobj, hints, hlen⟩ := script_of hn hpre hwl
  refine enter_call (codeAny_mono (call w s₀ s₁ mg mb fa o pm cd doc a vs ns G Y ho (fd_plain hd) hcd hmg hobj hints hlen hg) fun r s' hq => ?_)
  obtain ⟨rfl, h2, h3, h4⟩ := hq
  exact ⟨.inl ⟨.bool true, .bool true, [], rfl, fun _ => rfl, .bool true, post_true l _, fun _ => ⟨List.Pairwise.nil, fun _ hm => (nomatch hm)⟩⟩, h2, h3, h4⟩
section
variable {prog : Program} {w : World} {A : Around} {E : Value → Shared → Prop} {s : Shared} {K : Frag}
end
end Att
namespace L2
open PySem PySem.Spec PyProof.Rows
theorem vals_ints : ∀ {vs : List Value} {ns : List Int}, IntsAre vs ns → Vals (ns.map V.int) vs
  | _, _, .nil => .nil
  | _, _, .cons n t h => .cons ⟨t, rfl⟩ (vals_ints h)
noncomputable def Only (H : Hp) : Prop := ∀ b, H b = none ∨ ∃ o xs, H b = some (.frz o (.lst xs))
theorem law_call {P : Program} {w : World} {K : PySem.W.Frag} {mg mb : Str → Option Value} {CX : CXT} {k : Nat} {fa a : Addr} {fd : FuncData} {x : Str} {sp : Sp} {s₁ : Shared} {vs : List Value} {ns : List Int}
    (KX : K.In s₁.heap) (hns : s₁.heap.Ns mainGlobals mg) (hb : s₁.heap.Ns builtinsNs mb) (hbb : ∀ x : Str, x ≠ "__name__" → mb x = bootBuiltins x) (hlim : s₁.heap.NoLimit) (hg : s₁.gens = #[])
    (ha : s₁.heap.get? a = some { cls := .type "list", data := .seq vs.toArray }) (hi : IntsAre vs ns) (hl : ns.length ≤ sizeLine) (hr : Room k callerA)
    (F : ∀ base : Heap, K.In base → base.Ns mainGlobals mg → FnOk P w K mg base CX k fa fd [x] sp) (hbind : ∀ (s : Shared) (u : Value), BindsTo s fd ⟨[u], []⟩ [(x, u)])
    (hsp : ∀ H : Hp, Only H → SqL K H a (ns.map V.int) → sp [.ref a] H (fun v _ => v = .bl true) fun _ _ _ => False)
    (hCX : ∀ H e s', CX [] H s₁ (fun _ _ _ => False) e s' → False) :
    codeAny (model P w) callerA (.call (.ref fa) ⟨[.ref a], []⟩) (fun r s' => r = .ok (.ret (.bool true)) ∧ OldK s₁.heap s'.heap ∧ s'.os = s₁.os ∧ AllBare s'.gens) s₁ := by
  have rv := vals_ints hi
  have lenV := hi.length
  have core : ∀ H : Hp, Only H → SqL K H a (ns.map V.int) → HOk P w H s₁.heap → (∀ b, H b ≠ none → b = a) → (H a ≠ none → K.lookup a = none) →
      codeAny (model P w) callerA (.call (.ref fa) ⟨[.ref a], []⟩) (fun r s' => r = .ok (.ret (.bool true)) ∧ OldK s₁.heap s'.heap ∧ s'.os = s₁.os ∧ AllBare s'.gens) s₁ := by
    intro H hO hS hok hA hK
    have base_of : ∀ {b : Addr} {o : Obj}, s₁.heap.get? b = some o → H b = none → (hidT s₁.heap H).get? b = some o := fun e n => hidT_get e n
    have noA : ∀ {b : Addr} {o : Obj} {es : Array DictEntry} {ep : Nat}, s₁.heap.get? b = some o → o.data = .dict es ep → H b = none := fun {b o es ep} e d => by
      cases q : H b with
      | none => rfl
      | some u =>
        have e' : b = a := hA b (by rw [q]; simp)
        subst e'
        rw [ha] at e; cases e
        have d' : Data.seq vs.toArray _ = Data.dict es ep := d
        cases d'
    have nsK : ∀ {b : Addr} {m : Str → Option Value}, s₁.heap.Ns b m → (hidT s₁.heap H).Ns b m := fun {b m} ⟨o, es, ep, e, d, r⟩ => ⟨o, es, ep, base_of e (noA e d), d, r⟩
    have hKb : K.In (hidT s₁.heap H) := fun b o e => base_of (KX b o e) (by
      cases q : H b with
      | none => rfl
      | some u =>
        have e' : b = a := hA b (by rw [q]; simp)
        subst e'
        rw [hK (by rw [q]; simp)] at e; cases e)
    have hM : Mod K mg (hidT s₁.heap H) := ⟨hKb, nsK hns, ⟨mb, nsK hb, hbb⟩, let ⟨mc, h1, h2⟩ := hlim; ⟨mc, nsK h1, h2⟩⟩
    have e0 : Env0 P w K mg (hidT s₁.heap H) callerA [] s₁ H := ⟨rfl, hM, fun b o e => of_hidT e, Nat.le_of_eq (hidT_size _ _), trivial, fun b hb => absurd (show b ∈ ([] : List Addr) from hb) (by simp), hok, .of_eq hg⟩
    refine codeAny_mono ((F _ hKb (nsK hns)).run callerA [] s₁ H ⟨[.ref a], []⟩ [.ref a] [.ref a] _ _ hr e0 (hbind s₁ (.ref a)) (.cons rfl .nil) (hsp H hO hS)) fun r s' h => ?_
    cases r with
    | error e => exact (hCX H e s' h).elim
    | ok fl =>
      cases fl with
      | next => exact False.elim h
      | brk => exact False.elim h
      | cont => exact False.elim h
      | ret u =>
        obtain ⟨v, H', os, bare, un, hok', r', q⟩ := h
        have q' : v = .bl true := q
        subst q'
        obtain rfl : u = Value.bool true := r'
        refine ⟨rfl, OldK.of_keep fun b o e => ?_, os, bare⟩
        cases q : H b with
        | none => exact un.keep b o e q (by intro z; exact absurd (show b ∈ ([] : List Addr) from z) (by simp)) (by simp)
        | some u =>
          rcases hO b with z | ⟨ob, xs, z⟩
          · rw [q] at z; cases z
          · have z2 := un.frzs b ob _ z
            obtain ⟨e1, _⟩ := hok b _ z
            obtain ⟨e2, _⟩ := hok' b _ z2
            rw [e] at e1; cases e1
            exact e2
  cases hk : K.lookup a with
  | some o =>
    have e := KX a o hk
    rw [ha] at e
    cases e
    refine core (fun _ => none) (fun _ => .inl rfl) (.inr ⟨_, vs.toArray, _, hk, rfl, rfl, rfl, by rw [List.size_toArray, lenV]; exact hl, by simpa using rv⟩) (fun b u z => by have z' : (none : Option HO) = some u := z; cases z') (fun b z => absurd rfl z) fun z => absurd rfl z
  | none =>
    refine core (fun b => if b = a then some (.frz { cls := .type "list", data := .seq vs.toArray } (.lst (ns.map V.int))) else none) (fun b => ?_) (.inl (.inr ⟨{ cls := .type "list", data := .seq vs.toArray }, if_pos rfl⟩)) (fun b u z => ?_) (fun b z => ?_) fun _ => hk
    · by_cases hb : b = a
      · exact .inr ⟨_, _, if_pos hb⟩
      · exact .inl (if_neg hb)
    · by_cases hb : b = a
      · have z' := (if_pos hb).symm.trans z
        cases z'
        subst hb
        exact ⟨ha, by rw [List.length_map]; exact hl, vs, _, rv, ha⟩
      · have z' := (if_neg hb).symm.trans z
        cases z'
    · by_cases hb : b = a
      · exact hb
      · exact absurd (if_neg hb) z
end L2
namespace L2
open PySem PySem.Spec PyProof.Rows
noncomputable abbrev KOf {K : PySem.W.Frag} {h : Heap} (_ : K.In h) : PySem.W.Frag := K
theorem walk_of {l : PySem.W.OpenLaw} {n k : Nat} {q : Program} {loose : List Str} {XP : (Str → Option Value) → Heap → Prop} {YP : World → Heap → Prop} {d : DefRec} {K : Params → PySem.W.Frag} {CX : World → CXT} {sp : World → Sp} {x : Str}
    (hn : l.most = some n) (hn2 : n ≤ sizeLine) (hdf : d.params.defaults = []) (hr : Room k callerA)
    (hY : ∀ (w : World) (h : Heap), YP w h → (K w.params).In h)
    (F : ∀ (w : World) (mg : Str → Option Value) (fa : Addr) (h : Heap), (K w.params).In h → h.Ns mainGlobals mg → mg d.name = some (.ref fa) →
      ∃ fd : FuncData, (∀ (s : Shared) (u : Value), BindsTo s fd ⟨[u], []⟩ [(x, u)]) ∧
        ∀ base : Heap, (K w.params).In base → base.Ns mainGlobals mg → FnOk l.prog w (K w.params) mg base (CX w) k fa fd [x] (sp w))
    (hsp : ∀ (w : World) (H : Hp) (a : Addr) (ns : List Int), ns.length ≤ n → Only H → SqL (K w.params) H a (ns.map V.int) → sp w [.ref a] H (fun v _ => v = .bl true) fun _ _ _ => False)
    (hCX : ∀ (w : World) (H : Hp) (s : Shared) (e : Value) (s' : Shared), CX w [] H s (fun _ _ _ => False) e s' → False) :
    PySem.W.WalkO q loose XP YP l.row.toRowW d [] (fun f vs => PySem.call f vs) := by
  refine Att.attach_call hn hdf fun w s₀ s₁ mg mb fa o pm cd doc a vs ns G Y ho hd hcd hmg hobj hints hlen hg => ?_
  have KX := hY w _ Y
  obtain ⟨fd, hb, hF⟩ := F w mg fa _ KX G.T.g hmg
  exact law_call KX G.T.g G.T.b G.T.builtins G.T.nolimit hg hobj hints (Nat.le_trans hlen hn2) hr hF hb (fun H hO hS => hsp w H a ns hlen hO hS) fun H e s' => hCX w H s₁ e s'
end L2
namespace L2
open PySem PySem.Spec PyProof.Rows
noncomputable def inClass (s : Stmt) (j : Nat) : Stmt := match s with
  | .ClassDef _ _ _ body _ _ _ _ _ _ _ => body.getD j (.Pass ⟨0, 0, 0, 0⟩)
  | _ => .Pass ⟨0, 0, 0, 0⟩
noncomputable def defArgs (s : Stmt) : Arguments := match s with
  | .FunctionDef _ a _ _ _ _ _ _ _ _ => a
  | _ => { posonlyargs := [], args := [], vararg := none, kwonlyargs := [], kw_defaults := [], kwarg := none, defaults := [] }
noncomputable def defBody (s : Stmt) : List Stmt := match s with
  | .FunctionDef _ _ b _ _ _ _ _ _ _ => b
  | _ => []
noncomputable def defScope (s : Stmt) : Scope := match s with
  | .FunctionDef _ _ _ _ _ _ sc _ _ _ => sc
  | _ => { kind := .function, names := [], isGenerator := false, isCoroutine := false }
noncomputable abbrev CX0 : CXT := fun _ _ _ _ _ _ => False
noncomputable abbrev E0 : XK := fun _ _ _ => False
theorem pass0 {X : Cx} : Passes CX0 X E0 := fun _ _ _ _ _ _ _ h => h.elim
structure Fun (K : PySem.W.Frag) (x qual : Str) (st : Stmt) (f : Addr) (fd : FuncData) : Prop where
  ex : ∃ (oc : Value) (od : Option Addr) (kV doc pm : Value) (an : Option Addr) (cdv ct : Value) (osl : Array (Option Value)),
    fd = PySem.W.fnOf x qual (defArgs st) (defBody st) (defScope st) .none kV doc pm an cdv ct ∧ K.lookup f = some ⟨oc, od, .func fd, osl⟩ ∧ PySem.W.codeIn K cdv qual = true
  kp : PySem.W.keepIn K (.ref f) = true
section
variable {P : Program} {w : World} {K : PySem.W.Frag} {mg : Str → Option Value} {base : Heap}
theorem Fun.ok {x qual : Str} {st : Stmt} {f : Addr} {fd : FuncData} {N ps : List Str} {k : Nat} {sp : Sp} (F : Fun K x qual st f fd) (S : FnScope N ps (defScope st)) (len : ∀ vs H Q E, sp vs H Q E → vs.length = ps.length)
    (hbody : ∀ (cdv : Value) (A : Around) (outer : List Env) (s : Shared) (H : Hp) (vs : List V) (Q : VK) (E : XK), Room k (A.deeper (envOfC qual (defScope st) s.heap.objs.size f cdv)) → sp vs H Q E →
      ∃ t, PSs (cxOf CX0 P w K mg base N qual (defScope st) f cdv A outer s H E).nox (defBody st) t ∧ t { nx := fun _ H' => Q .non H', rt := Q } (start N vs) H) : FnOk P w K mg base CX0 (k + 1) f fd ps sp := by
  obtain ⟨oc, od, kV, doc, pm, an, cdv, ct, osl, rfl, lk, hcd⟩ := F.ex
  refine fn_of lk hcd S len fun A outer s H vs Q E hr hsp => ?_
  obtain ⟨t, h, q⟩ := hbody cdv A outer s H vs Q E hr hsp
  exact ⟨t, h.nox, q⟩
theorem Fun.binds {x qual : Str} {st : Stmt} {f : Addr} {fd : FuncData} {ps : List Str} (F : Fun K x qual st f fd)
    (h : ∀ (kV doc pm : Value) (an : Option Addr) (cdv ct : Value) (us : List Value), us.length = ps.length → bindArgs (PySem.W.fnOf x qual (defArgs st) (defBody st) (defScope st) .none kV doc pm an cdv ct) ⟨us, []⟩ = pure (ps.zip us)) : Binds K fd ps [] := by
  obtain ⟨oc, od, kV, doc, pm, an, cdv, ct, osl, rfl, lk, hcd⟩ := F.ex
  exact .all (h kV doc pm an cdv ct)
theorem fun_mk {x qual : Str} {st : Stmt} {f : Addr} {oc : Value} {od an : Option Addr} {osl : Array (Option Value)} {kV doc pm cdv ct : Value} (l : K.lookup f = some ⟨oc, od, .func (PySem.W.fnOf x qual (defArgs st) (defBody st) (defScope st) .none kV doc pm an cdv ct), osl⟩)
    (c : PySem.W.codeIn K cdv qual = true) (k : PySem.W.keepIn K (.ref f) = true) : Fun K x qual st f (PySem.W.fnOf x qual (defArgs st) (defBody st) (defScope st) .none kV doc pm an cdv ct) := ⟨⟨oc, od, kV, doc, pm, an, cdv, ct, osl, rfl, l, c⟩, k⟩
end
theorem hu_of {A : Around} {k : Nat} (hr : Room k A) : A.units + 1 < cLine := Nat.lt_of_le_of_lt (Nat.add_le_add_left (by decide : 1 ≤ 64) _) hr.units
theorem small1000 {n : Nat} (h : n ≤ 1000) : n < sizeLine := Nat.lt_of_le_of_lt h (by decide)
section
variable {X : Cx}
theorem pv (i : Nat) {x : Str} {pos : Pos} (hN : X.N[i]? = some x := by rfl) (hv : Vis X.env.scope x := by first | exact Or.inl rfl | exact Or.inr (Or.inl rfl) | exact Or.inr (Or.inr rfl)) (hd : (x == ("__debug__" : Str)) = false := by decide)
    (hcd : (x == ("__classdict__" : Str)) = false := by decide) : PE X (.Name x pos) (tVar i) := pe_var hN hv hd hcd
end
theorem iteF {A B : Prop} (h : B) : if false = true then A else B := by
  rw [if_neg Bool.false_ne_true]
  exact h
theorem iteT {A B : Prop} (h : A) : if true = true then A else B := by
  rw [if_pos rfl]
  exact h
theorem ite2 {c A B : Prop} [Decidable c] (h1 : c → A) (h2 : ¬ c → B) : if c then A else B := by
  by_cases h : c
  · rw [if_pos h]
    exact h1 h
  · rw [if_neg h]
    exact h2 h
noncomputable def Same (H H' : Hp) : Prop := ∀ b o, H b = some o → H' b = some o
theorem Same.refl (H : Hp) : Same H H := fun _ _ h => h
theorem Same.trans {H H1 H2 : Hp} (a : Same H H1) (b : Same H1 H2) : Same H H2 := fun c o h => b c o (a c o h)
theorem Same.free {H H' : Hp} (e : Same H H') {l : Addr} (h : H' l = Option.none) : H l = Option.none := by
  cases q : H l with
  | none => rfl
  | some o =>
    rw [e l o q] at h
    cases h
theorem Same.seq {K : PySem.W.Frag} {H H' : Hp} {a : Addr} {xs : List V} (e : Same H H') (h : SqL K H a xs) : SqL K H' a xs := by
  rcases h with (h | ⟨o, h⟩) | h
  · exact .inl (.inl (e _ _ h))
  · exact .inl (.inr ⟨o, e _ _ h⟩)
  · exact .inr h
end L2
set_option Elab.async false
set_option linter.all false
set_option maxRecDepth 100000
set_option maxHeartbeats 16000000
namespace L2
open PySem PySem.Spec PyProof.Rows
section
variable {X : Cx} {pins : List (Addr × Obj)} {σ : List (Option V)} {H : Hp} {s : Shared} {h' : Heap}
theorem Inv.turnedL {t' : Nat} {ch : List Addr} (I : Inv X pins σ H s) (k : ∀ b o, b ∉ ch → s.heap.get? b = some o → h'.get? b = some o) (hf : ∀ b ∈ ch, FpOk X pins H b) :
    Inv X pins σ H { s with heap := h', toks := t' } := by
  have nit : ∀ b u, H b = some u → b ∉ ch := fun b u e z => by rw [(hf b z).1] at e; cases e
  refine I.step (g' := s.gens) (d' := s.drawn) (ch := ch) (fun b hb => ?_) (fun b o _ _ hc e _ => k b o hc e) (fun b o _ _ hc e _ => ⟨o.slots, k b o hc e⟩) (fun _ _ _ _ n => n)
    (fun b o hc e => ⟨o, k b o hc e⟩) (fun _ _ e => e) (fun _ _ _ e => e) (fun b ps e => ⟨#[], by rw [e]; simp⟩) (fun m hm => ?_) (fun b u e => ?_) I.bare
  · obtain ⟨_, h1, _, h2, h3, h4⟩ := hf b hb
    exact ⟨h2, h1, h3, h4⟩
  · obtain ⟨o, es, ep, ho, r⟩ := hm
    exact ⟨o, es, ep, k _ o (fun z => (hf _ z).2.1 rfl) ho, r⟩
  · refine (I.hok b u e).stay (fun c v hc q => k c v ?_ q) (fun _ q => q) fun _ _ q => q
    rcases hc with z | z
    · rw [z]; exact nit b u e
    · exact nit c _ z
theorem Inv.track {T : Addr} {o : HO} (I : Inv X pins σ H s) (hf : FpOk X pins H T) (new : ObjOk X.prog X.w (upd H T o) s.heap T o) : Inv X pins σ (upd H T o) s := by
  obtain ⟨h0, h1, h5, h2, h3, h4⟩ := hf
  have nT : ∀ b u, H b = some u → b ≠ T := fun b u e z => by rw [z, h0] at e; cases e
  refine I.step (h' := s.heap) (g' := s.gens) (d' := s.drawn) (t' := s.toks) (ch := [T]) (fun b hb => ?_) (fun b o _ _ hc e _ => e) (fun b o _ _ hc e _ => ⟨o.slots, e⟩)
    (fun b o hc _ n => by rw [upd_ne (fun z => hc (by simp [z]))]; exact n)
    (fun b o hc e => ⟨o, e⟩) (fun b xs e => by rw [upd_ne (nT _ _ e)]; exact e) (fun b ob u e => by rw [upd_ne (nT _ _ e)]; exact e) (fun b ps e => ⟨#[], by rw [upd_ne (nT _ _ e), e]; simp⟩) (fun m hm => hm) (fun b u e => ?_) I.bare
  · have e : b = T := by simpa using hb
    subst e
    exact ⟨h2, h1, h3, h4⟩
  · by_cases hb : b = T
    · subst hb; rw [upd_same] at e; cases e; exact new
    · rw [upd_ne hb] at e
      exact (I.hok b u e).stay (fun c v _ q => q) (fun c q => by rw [upd_ne (nT _ _ q)]; exact q) fun c xs q => by rw [upd_ne (nT _ _ q)]; exact q
end
section
variable {X : Cx}
theorem call_isinst : CallR X (.builtin "isinstance") (fun xs H Q => ∃ x t T b, xs = [x, .ty T] ∧ TyOf X.K H x t ∧ PySem.W.kitOne X.K t (.type T) = some b ∧ Q (.bl b) H) := by
  intro pins s σ H xs us Q I r h
  obtain ⟨x, t, T, b, rfl, ty, e, q⟩ := h
  obtain ⟨u, w', rfl, rx, ry⟩ := vals2 r
  cases (show w' = Value.type T from ry)
  exact isinst_ok I rx ty e fun tk => ⟨.bl b, H, I.tok _, rfl, q⟩
theorem eqV_refl : ∀ {x : V}, flatV x = true → eqV x x = true
  | .non, _ => by rfl
  | .bl b, _ => by simp [eqV]
  | .int i, _ => by simp [eqV]
  | .str z, _ => by simp [eqV]
  | .byt _, h => by first | exact absurd (show false = true from h) Bool.false_ne_true | simp [eqV]
  | .flt _, h => by first | exact absurd (show false = true from h) Bool.false_ne_true | simp [eqV]
  | .ref _, h => by first | exact absurd (show false = true from h) Bool.false_ne_true | simp [eqV]
  | .ty _, h => by first | exact absurd (show false = true from h) Bool.false_ne_true | simp [eqV]
theorem same_items {A : Around} {s : Shared} {xs : List V} {its its2 : List Value} (r1 : Vals xs its) (r2 : Vals xs its2) (hf : xs.all flatV = true) :
    ∀ j (h1 : j < its.toArray.size) (h2 : j < its2.toArray.size), SeqAt.EqAt A s its.toArray[j] its2.toArray[j] true := by
  intro j h1 h2
  have hl := r1.length
  have hj : j < xs.length := by simpa [hl] using h1
  have hx : xs[j]? = some xs[j] := by simp [hj]
  obtain ⟨u, hu, ru⟩ := r1.get hx
  obtain ⟨u2, hu2, ru2⟩ := r2.get hx
  have fx : flatV xs[j] = true := List.all_eq_true.mp hf _ (List.getElem_mem hj)
  have e1 : its.toArray[j] = u := by
    have : its[j]? = some its.toArray[j] := by simp at h1; simp [h1]
    rw [hu] at this; exact (Option.some.inj this).symm
  have e2 : its2.toArray[j] = u2 := by
    have : its2[j]? = some its2.toArray[j] := by simp at h2; simp [h2]
    rw [hu2] at this; exact (Option.some.inj this).symm
  rw [e1, e2]
  have := eqAt_V (A := A) (s := s) ru ru2 fx fx
  rw [eqV_refl fx] at this
  exact this
end
end L2
namespace ET
open PySem PySem.Spec
open PySem.AutoSeq1 (wpAny_loadPart')
section
variable {prog : Program} {w : World} {A : Around} {E : Value → Shared → Prop} {s : Shared}
theorem nextOf_tuple_item {it l : Addr} {i : Nat} {items : Array Value} {x : Value} {Q : Value → Shared → Prop} (hit : s.heap.IsTupleIter it l i)
    (hl : s.heap.IsTuple l items) (hx : items[i]? = some x)
    (hQ : ∀ h', h'.IsTupleIter it l (i + 1) → Heap.SameBut it s.heap h' → Q x { s with heap := h' }) :
    wpAny (model prog w) A (Builtin.SmallTypes.nextOf (.ref it)) Q E s := by
  obtain ⟨o, ho, hc, hd⟩ := id hit
  obtain ⟨ol, hol, _, nl, hdl⟩ := hl
  unfold Builtin.SmallTypes.nextOf
  refine wpAny_bind (wpAny_callSpecial?_slot (name := Str.ofString "__next__") hit.typeIs F.slot_tuple_iterator_next
    (wpAny_call_entry F.slot_tuple_iterator_next hit.typeIs F.entry_tuple_iterator_next ?_ (F.args_tuple_iterator_next_1 _)))
  show wpAny _ _ (field (.ref it) 0 >>= _) _ _ s
  refine wpAny_bind (wpAny_field ho hd (x := .ref l) rfl ?_)
  show wpAny _ _ (if (Value.ref l == Value.none) = true then _ else _) _ _ s
  rw [if_neg (show ¬ ((Value.ref l == Value.none) = true) from Bool.false_ne_true)]
  show wpAny _ _ (field (.ref it) 1 >>= _) _ _ s
  refine wpAny_bind (wpAny_field ho hd (x := .int i 0) rfl ?_)
  show wpAny _ _ (seqItems? (.ref l) >>= _) _ _ s
  refine wpAny_bind (wpAny_seqItems hol hdl ?_)
  simp only [Int.toNat_natCast, hx]
  refine wpAny_bind (wpAny_setField ho hd (by simp) (wpAny_pure ⟨x, rfl, wpAny_pure (hQ _ ?_ (Heap.SameBut.update ..))⟩))
  exact ⟨_, Heap.get?_update_self _ ho (Obj.isFreed_of_fields (Obj.data_mapFields hd _)), (Obj.cls_mapFields ..).trans hc, by
    rw [Obj.data_mapFields hd]; simp [rawInt]⟩
theorem nextOf_tuple_end {it l : Addr} {i : Nat} {items : Array Value} {Q : Value → Shared → Prop} (hh : A.handled = none)
    (hit : s.heap.IsTupleIter it l i) (hl : s.heap.IsTuple l items) (hx : items[i]? = none)
    (hE : ∀ h' e, Heap.ExtBut it s.heap h' → (∃ o, h'.get? e = some o ∧ o.cls = .type "StopIteration") → E (.ref e) { s with heap := h' }) :
    wpAny (model prog w) A (Builtin.SmallTypes.nextOf (.ref it)) Q E s := by
  obtain ⟨o, ho, hc, hd⟩ := id hit
  obtain ⟨ol, hol, _, nl, hdl⟩ := hl
  unfold Builtin.SmallTypes.nextOf
  refine wpAny_bind (wpAny_callSpecial?_slot (name := Str.ofString "__next__") hit.typeIs F.slot_tuple_iterator_next
    (wpAny_call_entry F.slot_tuple_iterator_next hit.typeIs F.entry_tuple_iterator_next ?_ (F.args_tuple_iterator_next_1 _)))
  show wpAny _ _ (field (.ref it) 0 >>= _) _ _ s
  refine wpAny_bind (wpAny_field ho hd (x := .ref l) rfl ?_)
  show wpAny _ _ (if (Value.ref l == Value.none) = true then _ else _) _ _ s
  rw [if_neg (show ¬ ((Value.ref l == Value.none) = true) from Bool.false_ne_true)]
  show wpAny _ _ (field (.ref it) 1 >>= _) _ _ s
  refine wpAny_bind (wpAny_field ho hd (x := .int i 0) rfl ?_)
  show wpAny _ _ (seqItems? (.ref l) >>= _) _ _ s
  refine wpAny_bind (wpAny_seqItems hol hdl ?_)
  simp only [Int.toNat_natCast, hx]
  refine wpAny_bind (wpAny_rule (wpAny_bind (wpAny_setField ho hd (by simp) ?_)))
  show wpAny _ _ (newExc (.type "StopIteration") [] >>= _) _ _ _
  refine wpAny_bind ?_
  simp only [newExc, newTuple]
  refine wpAny_bind (wpAny_newObj_type ?_ (by size_fits))
  refine wpAny_bind (m := firstArgMember _ _) (wpAny_of_eq (a := Value.none) (by first | rfl | (simp only [firstArgMember]; rfl)) ?_)
  refine wpAny_newObj_type ?_ (by size_fits)
  simp only [raiseNew]
  refine wpAny_bind (wpAny_handled ?_)
  first | rw [show A.in1.handled = none from hh] | rw [hh]
  refine wpAny_bind (wpAny_pure (wpAny_throw ?_))
  exact hE _ _ (((Heap.SameBut.update ..).extBut.push _).push _) ⟨_, Heap.get?_push_size _ rfl, rfl⟩
end
theorem draws_tuple {prog : Program} {w : World} {A : Around} (hh : A.handled = none) (it l : Addr) (hne : l ≠ it) (items : Array Value) :
    Draws prog w A it [it, l] items.size (fun i v => items[i]? = some v) (fun i h => h.IsTupleIter it l i ∧ h.IsTuple l items) where
  live := fun _ _ st => let ⟨o, ho, _⟩ := st.1; ⟨o, ho⟩
  frame := fun _ _ _ st hk => ⟨let ⟨o, ho, r⟩ := st.1; ⟨o, hk it (by simp) o ho, r⟩, let ⟨o, ho, r⟩ := st.2; ⟨o, hk l (by simp) o ho, r⟩⟩
  item := fun i s Q E hi st hQ => by
    refine nextOf_tuple_item st.1 st.2 (x := items[i]) (by simp [hi]) fun h' hit' hs' => ?_
    exact hQ _ h' s.toks (by simp [hi]) ⟨hit', st.2.extBut hs'.extBut hne⟩ hs'
  done := fun s Q E st hE => nextOf_tuple_end hh st.1 st.2 (by simp) hE
theorem meets_enumerate_newT (l : Addr) (items : Array Value) (n : Nat) (dct : Option Addr) (sl : Array (Option Value)) :
    Meets (Builtin.«enumerate.__new__» ⟨[.type "enumerate", .ref l], []⟩) (fun _ R s => s.heap.get? l = some { cls := .type "tuple", dict := dct, data := .seq items n, slots := sl } ∧
      R (.ok (.ret (.ref (s.heap.push { cls := .type "tuple_iterator", data := .fields #[.ref l, .int 0 0] }).objs.size)))
        { s with heap := (s.heap.push { cls := .type "tuple_iterator", data := .fields #[.ref l, .int 0 0] }).push { cls := .type "enumerate", data := .fields #[.none, .bool false, .ref s.heap.objs.size, rawInt 0, .none, .none] } }) :=
  .of_wp fun prog w A R s h => by
    obtain ⟨hp, g, d, tk, os⟩ := s; obtain ⟨hl, h⟩ := h
    have hsub := sub_enumerate
    have hL : Heap.IsTuple (Shared.heap ⟨hp, g, d, tk, os⟩) l items := ⟨_, hl, rfl, n, rfl⟩
    wp_walk using wpAny_loadPart' hl
    refine wpAny_stack_any fun st => wpAny_pure ?_
    split
    · rename_i c _ _ _ _ _
      cases (c == Value.type "enumerate")
      · wp_walk using wpAny_loadPart' hl, wpAny_pyIter_tuple hL
        exact ⟨_, rfl, h⟩
      · wp_walk using wpAny_loadPart' hl, wpAny_pyIter_tuple hL
        exact ⟨_, rfl, h⟩
    · wp_walk using wpAny_loadPart' hl, wpAny_pyIter_tuple hL
      exact ⟨_, rfl, h⟩
theorem call_enumerate_tuple {prog : Program} {w : World} {A : Around} {E : Value → Shared → Prop} {s : Shared} {l : Addr} {items : Array Value} {Q : Value → Shared → Prop} (hL : s.heap.IsTuple l items)
    (h : ∀ h', IsEnum h' (s.heap.objs.size + 1) s.heap.objs.size 0 .none → h'.IsTupleIter s.heap.objs.size l 0 → h'.objs.size = s.heap.objs.size + 2 →
      (∀ b o, s.heap.get? b = some o → h'.get? b = some o) → Q (.ref (s.heap.objs.size + 1)) { s with heap := h' }) :
    wpAny (model prog w) A (call (.type "enumerate") [.ref l]) Q E s := by
  obtain ⟨⟨c, dct, dt, sl⟩, hl, hc, n, hd⟩ := hL
  replace hc : c = .type "tuple" := hc
  replace hd : dt = .seq items n := hd
  subst hc hd
  refine callType_new F.called_enumerate (by decide) (F.typeCall_enumerate_1 _) (F.newCall_enumerate_1 _) (fun obj => F.args_object_init_2 obj _) F.entry_enumerate_new
    (meets_enumerate_newT l items n dct sl) ⟨hl, ?_⟩
  have hz : (s.heap.push { cls := .type "tuple_iterator", data := .fields #[.ref l, .int 0 0] }).objs.size = s.heap.objs.size + 1 := Heap.size_push ..
  show _ ∧ _
  rw [hz]
  have he : IsEnum ((s.heap.push { cls := .type "tuple_iterator", data := .fields #[.ref l, .int 0 0] }).push
      { cls := .type "enumerate", data := .fields #[.none, .bool false, .ref s.heap.objs.size, rawInt 0, .none, .none] }) (s.heap.objs.size + 1) s.heap.objs.size 0 .none := by
    have := Heap.get?_push_size (s.heap.push { cls := .type "tuple_iterator", data := .fields #[.ref l, .int 0 0] })
      (o := { cls := .type "enumerate", data := .fields #[.none, .bool false, .ref s.heap.objs.size, rawInt 0, .none, .none] }) rfl
    rw [hz] at this; exact this
  refine ⟨⟨_, he, rfl⟩, h _ he ⟨_, Heap.get?_push_of_some _ (Heap.get?_push_size _ rfl), rfl, rfl⟩ (by rw [Heap.size_push, hz]) fun b o x => Heap.get?_push_of_some _ (Heap.get?_push_of_some _ x)⟩
end ET
namespace L2
open PySem PySem.Spec PyProof.Rows
noncomputable def Ite (K : PySem.W.Frag) (a : Addr) : It :=
  ⟨fun i H => ∃ xs x, SqT K H a xs ∧ xs[i]? = some x,
   fun i H x H' => ∃ p v, (∀ xs, SqT K H a xs → xs[i]? = some v) ∧ H p = none ∧ x = .ref p ∧ H' = upd H p (.tup [.int i, v]),
   fun i H => ∃ xs, SqT K H a xs ∧ xs.length = i⟩
theorem turn_enumT {P : Program} {w : World} {K : PySem.W.Frag} {elts : List Expr} {k : Nat} {pos : Pos} (a e it : Addr) (hei : e ≠ it) :
    Turn P w K (.Tuple elts k pos) (Ite K a) [e, it] e (fun i h => (∃ old, IsEnum h e it i old) ∧ h.IsTupleIter it a i) where
  mem := by simp
  obj := fun i h st b hb => by
    obtain ⟨⟨old, he⟩, o, ho, hc, hd⟩ := st
    rcases List.mem_cons.mp hb with z | hb
    · subst z
      exact ⟨_, he, fun v z => by
        have z' : Data.fields _ = Data.cell v := z
        cases z'⟩
    · obtain z := List.mem_singleton.mp hb
      subst z
      exact ⟨o, ho, fun v z => by rw [hd] at z; cases z⟩
  keep := fun i h h' st kk => by
    obtain ⟨⟨old, he⟩, o, ho, r⟩ := st
    exact ⟨⟨old, kk e (by simp) _ he⟩, o, kk it (by simp) o ho, r⟩
  item := by
    intro X hP hw hK hc i pins s σ H E I hf st hg
    subst hP hw hK
    obtain ⟨xs, x, hq, hx⟩ := hg
    obtain ⟨its, rv, p, hz⟩ := I.tuple hq
    obtain ⟨u, hu, ru⟩ := rv.get hx
    obtain ⟨⟨old, he⟩, hit⟩ := st
    have ht : s.heap.IsTuple a its.toArray := p
    have hai : a ≠ it := by
      intro z
      obtain ⟨o, ho, hc1, _⟩ := id hit
      obtain ⟨o2, ho2, hc2, _⟩ := id ht
      rw [z, ho] at ho2
      cases ho2
      rw [hc1] at hc2
      exact absurd hc2 (by decide)
    have hae : a ≠ e := by
      intro z
      obtain ⟨o2, ho2, hc2, _⟩ := id ht
      have he' := he
      unfold IsEnum at he'
      rw [z, he'] at ho2
      cases ho2
      exact absurd (show Value.type "enumerate" = Value.type "tuple" from hc2) (by decide)
    have D := ET.draws_tuple (prog := X.prog) (w := X.w) (A := X.A.in1) (show X.A.in1.handled = none from I.ok.hd hc) it a hai its.toArray
    have hef : e ∉ [it, a] := by
      intro z
      rcases List.mem_cons.mp z with z | z
      · exact hei z
      · exact hae (List.mem_singleton.mp z).symm
    have W := WalksT.enumerateD D e hei hef (by simp)
    have hlt : i < its.toArray.size := by
      have h1 := (List.getElem?_eq_some_iff.mp hu).1
      simpa using h1
    refine W.item i s _ _ hlt ⟨⟨old, he⟩, hit, ht⟩ fun T vals h' tk hP hT hTup hM hk => ?_
    obtain ⟨t, y, hy, rfl⟩ := hP
    have ey : y = u := by
      have : its[i]? = some y := by simpa using hy
      rw [hu] at this
      exact (Option.some.inj this).symm
    subst ey
    have I1 : Inv X pins σ H { s with heap := h', toks := tk } := I.turnedL (ch := [e, it]) hk hf
    have hHT : H T = none := I.hok.fresh hT
    have fT : FpOk X pins H T := I.fpOk hT hHT
    refine ⟨_, rfl, ?_⟩
    refine W.go elts k pos i T { s with heap := h', toks := tk } _ _ hM fun h2 st2 hk2 => ?_
    have I2' := I1.turnedL (h' := h2) (t' := tk) (ch := [e, it]) hk2 hf
    have I2 : Inv X pins σ H { s with heap := h2, toks := tk } := I2'
    have hT2 : h2.IsTuple T #[.int i t, y] := by
      obtain ⟨o, ho, r⟩ := hTup
      exact ⟨o, hk2 T o (W.apart i T h' hM) ho, r⟩
    have I3 : Inv X pins σ (upd H T (.tup [.int i, x])) { s with heap := h2, toks := tk } :=
      I2.track fT ⟨by show 2 ≤ sizeLine; decide, [.int i t, y], .cons ⟨t, rfl⟩ (.cons ru .nil), hT2⟩
    refine ⟨.ref T, _, I3, rfl, ⟨T, x, fun ys hy' => by rw [I.tuple_inj hy' hq]; exact hx, hHT, rfl, rfl⟩, ⟨by simpa using st2.1, st2.2.1⟩, fun b hb => ?_⟩
    rw [upd_ne (fun z => W.apart i T h' hM (by rw [← z]; exact hb))]
    exact (hf b hb).1
  done := by
    intro X hP hw hK hc i pins s σ H E I hf st hg
    subst hP hw hK
    obtain ⟨xs, hq, hx⟩ := hg
    obtain ⟨its, rv, p, hz⟩ := I.tuple hq
    obtain ⟨⟨old, he⟩, hit⟩ := st
    have ht : s.heap.IsTuple a its.toArray := p
    have hai : a ≠ it := by
      intro z
      obtain ⟨o, ho, hc1, _⟩ := id hit
      obtain ⟨o2, ho2, hc2, _⟩ := id ht
      rw [z, ho] at ho2
      cases ho2
      rw [hc1] at hc2
      exact absurd hc2 (by decide)
    have hae : a ≠ e := by
      intro z
      obtain ⟨o2, ho2, hc2, _⟩ := id ht
      have he' := he
      unfold IsEnum at he'
      rw [z, he'] at ho2
      cases ho2
      exact absurd (show Value.type "enumerate" = Value.type "tuple" from hc2) (by decide)
    have D := ET.draws_tuple (prog := X.prog) (w := X.w) (A := X.A.in1) (show X.A.in1.handled = none from I.ok.hd hc) it a hai its.toArray
    have hef : e ∉ [it, a] := by
      intro z
      rcases List.mem_cons.mp z with z | z
      · exact hei z
      · exact hae (List.mem_singleton.mp z).symm
    have W := WalksT.enumerateD D e hei hef (by simp)
    have hl := rv.length
    have hn : i = its.toArray.size := by simp; omega
    refine W.done s _ _ ⟨⟨old, by rw [← hn]; exact he⟩, by rw [← hn]; exact hit, ht⟩ fun h' tk hk => ⟨rfl, ?_⟩
    exact I.turnedL (ch := [e, it]) hk hf
  self := fun _ _ _ _ _ st h => by
    obtain ⟨⟨old, he⟩, _⟩ := st
    exact wpAny_pyIter_enum he h
section
variable {X : Cx} {elts : List Expr} {k : Nat} {tpos : Pos}
noncomputable def iEnum (K : PySem.W.Frag) (ta : TA) : TI := fun σ H R => ta σ H fun vs H1 => ∃ a, vs = [.ref a] ∧ (∃ xs, SqT K H1 a xs) ∧ R (Ite K a) H1
theorem pi_enumT {a : Expr} {ta : TA} {p pos : Pos} (hg : Gl X "enumerate") (hm : X.mg "enumerate" = none) (ha : PA X [a] ta) (hs : starEach [a] X.env = [(false, eval a X.env)] := by rfl) :
    PI X (.Tuple elts k tpos) (.Call (.Name "enumerate" p) [a] [] pos) (iEnum X.K ta) := by
  intro pins s σ H R I h
  refine Call_ (ld_blt I hg hm boot_enumerate (PyProof.Rows.callWith_type1 (thn (ha pos pins s σ H _ I h) fun us s1 ⟨vs, H1, I1, r1, q1⟩ => ?_) hs rfl))
  obtain ⟨a, e, ⟨xs, hq⟩, q⟩ := q1
  subst e
  cases r1 with
  | cons r rr =>
    cases rr
    cases r
    obtain ⟨its, rv, p, hz⟩ := I1.tuple hq
    refine ET.call_enumerate_tuple (show s1.heap.IsTuple a its.toArray from p) fun h' he hit hsz hk => ?_
    have I2 : Inv X pins σ H1 { s1 with heap := h' } := I1.kept (t' := s1.toks) hk
    refine wpAny_pyIter_enum he ?_
    refine ⟨s1.heap.objs.size + 1, [s1.heap.objs.size + 1, s1.heap.objs.size], _, _, H1, rfl, I2, turn_enumT a (s1.heap.objs.size + 1) s1.heap.objs.size (Nat.succ_ne_self _), ⟨⟨_, he⟩, hit⟩, fun b hb => ?_, q⟩
    have hb' : s1.heap.objs.size ≤ b := by
      rcases List.mem_cons.mp hb with z | z
      · rw [z]; exact Nat.le_succ _
      · rw [List.mem_singleton.mp z]; exact Nat.le_refl _
    exact I1.fpOk hb' (I1.hok.fresh hb')
end
theorem for_enum {K : PySem.W.Frag} {a : Addr} {xs : List V} {g : TG} {tb : TS} {D : Ends} {σ : St} {H : Hp} (Pv : Nat → St → Hp → Prop) (h0 : Pv 0 σ H) (hl : ∀ i σ H, i ≤ xs.length → Pv i σ H → SqT K H a xs)
    (hs : ∀ i x p σ H, xs[i]? = some x → Pv i σ H → H p = none → g (.ref p) σ (upd H p (.tup [.int i, x])) fun σ2 H2 => tb { D with nx := Pv (i + 1), ct := Pv (i + 1), bk := D.nx } σ2 H2) (hd : ∀ σ H, Pv xs.length σ H → D.nx σ H) :
    ∃ W : Nat → Nat → St → Hp → Prop, (∃ m, W 0 m σ H) ∧ ∀ i m σ H, W i m σ H →
      ((Ite K a).stop i H ∧ D.nx σ H) ∨ ((Ite K a).go i H ∧ ∃ N : St → Hp → Prop, (∀ σ' H', N σ' H' → ∃ m', m' < m ∧ W (i + 1) m' σ' H') ∧ ∀ x H', (Ite K a).yld i H x H' → g x σ H' fun σ2 H2 => tb { D with nx := N, ct := N, bk := D.nx } σ2 H2) := by
  refine ⟨fun i m σ H => m = xs.length - i ∧ i ≤ xs.length ∧ Pv i σ H, ⟨xs.length, by simp, Nat.zero_le _, h0⟩, ?_⟩
  rintro i m σ H ⟨rfl, hi, p⟩
  have q := hl i σ H hi p
  by_cases hlt : i < xs.length
  · refine .inr ⟨⟨xs, xs[i], q, by simp [hlt]⟩, Pv (i + 1), fun σ' H' p' => ⟨xs.length - (i + 1), by omega, rfl, hlt, p'⟩, fun x H' y => ?_⟩
    obtain ⟨pp, v, y, hn, e1, e2⟩ := y
    subst e1 e2
    exact hs i v pp σ _ (y xs q) p hn
  · have e : i = xs.length := by omega
    subst e
    exact .inl ⟨⟨xs, q, rfl⟩, hd σ H p⟩
end L2
set_option Elab.async false
set_option linter.all false
set_option maxRecDepth 100000
set_option maxHeartbeats 16000000
namespace L2
open PySem PySem.Spec PyProof.Rows
structure Cl (P : Program) (w : World) (K : PySem.W.Frag) (mg : Str → Option Value) (base : Heap) (k : Nat) (x : Str) (ps : List Str) (sp : Sp) : Prop where
  ex : ∃ f fd, FnOk P w K mg base CX0 k f fd ps sp ∧ mg x = some (.ref f) ∧ PySem.W.keepIn K (.ref f) = true ∧ Binds K fd ps []
theorem pe_fn {X : Cx} {j k : Nat} {x : Str} {ps : List Str} {sp : Sp} {e : Expr} {es : List Expr} {t : TA} {p pos : Pos} (C : Cl X.prog X.w X.K X.mg X.base j x ps sp) (hr : Room k X.A) (hg : Gl X x) (ha : PA X (e :: es) t) (hjk : j ≤ k := by decide)
    (hdb : (x == ("__debug__" : Str)) = false := by decide) (he : starEach (e :: es) X.env = (false, eval e X.env) :: starEach es X.env := by rfl) (hpl : (backTo pos (starEach es X.env)).any (·.1) = false := by rfl) :
    PE X (.Call (.Name x p) (e :: es) [] pos) (tCall sp [] E0 t) := by
  obtain ⟨f, fd, F, hm, hk, hb⟩ := C.ex
  exact pe_call F (hr.mono hjk) hg hm hk hb .nil pass0 ha hdb he hpl
noncomputable def HasDef (K : PySem.W.Frag) (mg : Str → Option Value) (x : Str) (st : Stmt) : Prop := ∃ f fd, Fun K x x st f fd ∧ mg x = some (.ref f)
theorem hasDef_mk {K : PySem.W.Frag} {mg : Str → Option Value} {h : Heap} {x : Str} {st : Stmt} {f : Addr} {oc : Value} {od an : Option Addr} {osl : Array (Option Value)} {kV doc pm cdv ct : Value} (X : K.In h) (G : h.Ns mainGlobals mg)
    (a : PySem.W.nsIn K mainGlobals x = some (some (.ref f))) (l : K.lookup f = some ⟨oc, od, .func (PySem.W.fnOf x x (defArgs st) (defBody st) (defScope st) .none kV doc pm an cdv ct), osl⟩)
    (c : PySem.W.codeIn K cdv x = true) (k : PySem.W.keepIn K (.ref f) = true) : HasDef K mg x st :=
  ⟨f, _, fun_mk l c k, PySem.W.mg_of X G a⟩
theorem Cl.of {P : Program} {w : World} {K : PySem.W.Frag} {mg : Str → Option Value} {base : Heap} {x : Str} {st : Stmt} {N ps : List Str} {k : Nat} {sp : Sp} (T : HasDef K mg x st) (S : FnScope N ps (defScope st)) (len : ∀ vs H Q E, sp vs H Q E → vs.length = ps.length)
    (hb : ∀ (kV doc pm : Value) (an : Option Addr) (cdv ct : Value) (us : List Value), us.length = ps.length → bindArgs (PySem.W.fnOf x x (defArgs st) (defBody st) (defScope st) .none kV doc pm an cdv ct) ⟨us, []⟩ = pure (ps.zip us))
    (hbody : ∀ (f : Addr) (cdv : Value) (A : Around) (outer : List Env) (s : Shared) (H : Hp) (vs : List V) (Q : VK) (E : XK), Room k (A.deeper (envOfC x (defScope st) s.heap.objs.size f cdv)) → sp vs H Q E →
      ∃ t, PSs (cxOf CX0 P w K mg base N x (defScope st) f cdv A outer s H E).nox (defBody st) t ∧ t { nx := fun _ H' => Q .non H', rt := Q } (start N vs) H) : Cl P w K mg base (k + 1) x ps sp := by
  obtain ⟨f, fd, F, m⟩ := T
  exact ⟨f, fd, F.ok S len (fun cdv A outer s H vs Q E => hbody f cdv A outer s H vs Q E), m, F.kp, F.binds hb⟩
noncomputable def Tups (H H' : Hp) : Prop := ∀ b xs, H b = some (.tup xs) → H' b = some (.tup xs)
section
variable {H H1 H2 : Hp} {l p : Addr} {o : HO} {xs ys : List V}
theorem Same.tups (e : Same H H1) : Tups H H1 := fun b xs q => e b _ q
theorem Tups.trans (a : Tups H H1) (b : Tups H1 H2) : Tups H H2 := fun c xs q => b c xs (a c xs q)
theorem Tups.lst (h : H l = some (.lst xs)) : Tups H (upd H l (.lst ys)) := fun b zs q => by
  rw [upd_ne (ne_of q h (by intro z; cases z))]; exact q
theorem Same.put (s : Same H H1) (h : H l = none) : Same H (upd H1 l o) := fun b u q => by
  rw [upd_ne (ne_of_none q h)]; exact s b u q
theorem Same.new (s : Same H H1) (h : H1 p = none) : Same H (upd H1 p o) := s.put (s.free h)
theorem upd_keep {u : HO} (h : H l = some u) (hp : H p = none) : upd H p o l = some u := by
  rw [upd_ne (ne_of_none h hp)]; exact h
end
theorem atI_getD {α : Type} (xs : List α) (d : α) {i : Int} (h0 : 0 ≤ i) (h1 : i < (xs.length : Int)) : atI xs i = some (xs.getD i.toNat d) := by
  have e : i = ((i.toNat : Nat) : Int) := by omega
  have hl : i.toNat < xs.length := by omega
  have hx : xs[i.toNat]? = some (xs.getD i.toNat d) := by
    rw [List.getD_eq_getElem?_getD]
    simp [hl]
  have := atI_nat hx
  rw [← e] at this
  exact this
theorem atI_mem {α : Type} (xs : List α) {i : Int} (h0 : 0 ≤ i) (h1 : i < (xs.length : Int)) : ∃ v, v ∈ xs ∧ atI xs i = some v := by
  have e : i = ((i.toNat : Nat) : Int) := by omega
  have hl : i.toNat < xs.length := by omega
  have hx : xs[i.toNat]? = some xs[i.toNat] := by simp [hl]
  refine ⟨xs[i.toNat], List.getElem_mem hl, ?_⟩
  have := atI_nat hx
  rw [← e] at this
  exact this
theorem atI_map {α : Type} (f : α → V) (xs : List α) (d : α) {i : Int} (h0 : 0 ≤ i) (h1 : i < (xs.length : Int)) : atI (xs.map f) i = some (f (xs.getD i.toNat d)) := by
  have := atI_getD (xs.map f) (f d) h0 (by simpa using h1)
  rw [this, List.getD_eq_getElem?_getD, List.getElem?_map, List.getD_eq_getElem?_getD]
  have hl : i.toNat < xs.length := by omega
  simp [hl]
theorem iteSE {x : Str} {A B : Prop} (h : A) : if decide (V.str x = V.str x) = true then A else B := by
  rw [if_pos (decide_eq_true rfl)]; exact h
theorem iteSN {x y : Str} {A B : Prop} (e : ¬ x = y) (h : B) : if decide (V.str x = V.str y) = true then A else B := by
  rw [if_neg (by rw [decide_eq_false (fun q => e (V.str.inj q))]; exact Bool.false_ne_true)]; exact h
theorem kit_same (K : PySem.W.Frag) (T : String) : PySem.W.kitOne K (.type T) (.type T) = some true := by
  unfold PySem.W.kitOne
  rw [if_pos (by simp)]
theorem Paired.get? {α β : Type} {F : α → β → Prop} : ∀ {xs : List α} {ys : List β} {i : Nat} {x : α}, Paired F xs ys → xs[i]? = some x → ∃ y, ys[i]? = some y ∧ F x y
  | _, _, _, _, .nil, e => by simp at e
  | _, _, 0, _, .cons r _, e => by simp at e; subst e; exact ⟨_, rfl, r⟩
  | _, _, i + 1, x, .cons _ t, e => by
    obtain ⟨u, h1, h2⟩ := Paired.get? (i := i) (x := x) t (by simpa using e)
    exact ⟨u, by simpa using h1, h2⟩
theorem Paired.get?' {α β : Type} {F : α → β → Prop} : ∀ {xs : List α} {ys : List β} {i : Nat} {y : β}, Paired F xs ys → ys[i]? = some y → ∃ x, xs[i]? = some x ∧ F x y
  | _, _, _, _, .nil, e => by simp at e
  | _, _, 0, _, .cons r _, e => by simp at e; subst e; exact ⟨_, rfl, r⟩
  | _, _, i + 1, x, .cons _ t, e => by
    obtain ⟨u, h1, h2⟩ := Paired.get?' (i := i) (y := x) t (by simpa using e)
    exact ⟨u, by simpa using h1, h2⟩
theorem take_succ_get {α : Type} {l : List α} {i : Nat} {x : α} (h : l[i]? = some x) : l.take (i + 1) = l.take i ++ [x] := by
  rw [List.take_succ, h]; rfl
end L2
set_option Elab.async false
set_option linter.all false
set_option maxRecDepth 100000
set_option maxHeartbeats 16000000
namespace L2
open PySem PySem.Spec PyProof.Rows
section
variable {X : Cx}
end
section
variable {X : Cx}
end
end L2
set_option Elab.async false
set_option linter.all false
set_option maxRecDepth 100000
set_option maxHeartbeats 16000000
namespace L2
open PySem PySem.Spec PyProof.Rows
noncomputable def closL (cells : List (Str × Addr)) : List (Str × NameKind) → List (Str × Addr) → List (Str × Addr)
  | [], cs => cs
  | (n, k) :: r, cs => closL cells r (if k == .free then (n, (cells.lookup n).getD 0) :: cs else cs)
theorem closL_pure {cells : List (Str × Addr)} {env : Env} (he : env.cells = cells) : ∀ (l : List (Str × NameKind)) (cs : List (Str × Addr)), (∀ y ∈ l, y.2 = .free → ∃ c, cells.lookup y.1 = some c) →
    (forIn l cs fun p cs => (do if p.2 == .free then (do let a ← cellOf env p.1; pure (ForInStep.yield ((p.1, a) :: cs))) else pure (ForInStep.yield cs) : Sem (ForInStep (List (Str × Addr))))) = pure (closL cells l cs) := by
  intro l
  induction l with
  | nil => intro cs _; rfl
  | cons p r ih =>
    intro cs h
    obtain ⟨n, k⟩ := p
    rw [List.forIn_cons]
    have hr : ∀ y ∈ r, y.2 = .free → ∃ c, cells.lookup y.1 = some c := fun y hy => h y (List.mem_cons_of_mem _ hy)
    by_cases hk : k = .free
    · subst hk
      obtain ⟨c, hc⟩ := h (n, .free) List.mem_cons_self rfl
      have hc' : env.cells.lookup n = some c := by rw [he]; exact hc
      have e : cellOf env n = pure c := by unfold cellOf; rw [hc']
      simp only [beq_self_eq_true, if_true, e, pure_bind]
      rw [ih _ hr]
      unfold closL
      rw [if_pos (by simp), show (cells.lookup n).getD 0 = c by rw [show cells.lookup n = some c from hc]; rfl]
      conv => rhs; unfold closL
    · have hb : (k == NameKind.free) = false := by simpa using hk
      simp only [hb, Bool.false_eq_true, if_false, pure_bind]
      rw [ih _ hr]
      conv => rhs; unfold closL
      rw [if_neg (by rw [hb]; exact Bool.false_ne_true)]
theorem closL_lookup {cells : List (Str × Addr)} {x : Str} {c : Addr} : ∀ (l : List (Str × NameKind)) (cs : List (Str × Addr)), (∀ y ∈ l, y.2 = .free → ∃ c, cells.lookup y.1 = some c) → (closL cells l cs).lookup x = some c → cells.lookup x = some c ∨ cs.lookup x = some c
  | [], cs, _, h => .inr h
  | (n, k) :: r, cs, hy, h => by
    unfold closL at h
    rcases closL_lookup r _ (fun y q => hy y (List.mem_cons_of_mem _ q)) h with h | h
    · exact .inl h
    · by_cases hk : k = .free
      · subst hk
        obtain ⟨c', hc⟩ := hy (n, .free) List.mem_cons_self rfl
        have hc : cells.lookup n = some c' := hc
        rw [if_pos (by simp), List.lookup_cons] at h
        split at h
        · rename_i e
          have e' : x = n := by simpa using e
          subst e'
          rw [hc] at h
          cases h
          exact .inl hc
        · exact .inr h
      · rw [if_neg (by simpa using hk)] at h
        exact .inr h
theorem closL_keep {cells : List (Str × Addr)} {x : Str} : ∀ (l : List (Str × NameKind)) (cs : List (Str × Addr)), (∃ c, cs.lookup x = some c) → ∃ c, (closL cells l cs).lookup x = some c
  | [], _, h => h
  | (n, k) :: r, cs, h => by
    unfold closL
    refine closL_keep r _ ?_
    split
    · rw [List.lookup_cons]
      split
      · exact ⟨_, rfl⟩
      · exact h
    · exact h
theorem closL_has {cells : List (Str × Addr)} {x : Str} : ∀ (l : List (Str × NameKind)) (cs : List (Str × Addr)), (x, NameKind.free) ∈ l → ∃ c, (closL cells l cs).lookup x = some c
  | (n, k) :: r, cs, h => by
    unfold closL
    rcases List.mem_cons.mp h with e | h
    · cases e
      refine closL_keep r _ ?_
      rw [if_pos (by simp), List.lookup_cons]
      simp
    · exact closL_has r _ h
theorem closure_pure {sc : Scope} {env : Env} (h : ∀ y ∈ sc.names, y.2 = .free → ∃ c, env.cells.lookup y.1 = some c) : closureFor sc env = pure (closL env.cells sc.names []) := by
  have := closL_pure (env := env) rfl sc.names [] h
  unfold closureFor
  simp only [bind_pure]
  exact this
theorem relabel_free {env : Env} {x : Str} : ∀ {names : List (Str × NameKind)}, names.lookup x = some .free →
    (names.map fun (n, k) => if (k == NameKind.free && env.scope.kind == .function && env.kindOf n == some .cell) then (n, NameKind.cell) else (n, k)).lookup x = some .cell ∨
    (names.map fun (n, k) => if (k == NameKind.free && env.scope.kind == .function && env.kindOf n == some .cell) then (n, NameKind.cell) else (n, k)).lookup x = some .free
  | [], h => by simp at h
  | (n, k) :: r, h => by
    have ih := @relabel_free env x r
    simp only [List.map_cons]
    by_cases hc : (k == NameKind.free && env.scope.kind == .function && env.kindOf n == some .cell) = true
    · rw [if_pos hc]
      simp only [List.lookup_cons] at h ⊢
      cases hx : x == n with
      | true => exact .inl rfl
      | false => simp only [hx] at h ⊢; exact ih h
    · rw [if_neg hc]
      simp only [List.lookup_cons] at h ⊢
      cases hx : x == n with
      | true => simp only [hx] at h ⊢; exact .inr h
      | false => simp only [hx] at h ⊢; exact ih h
theorem relabel_back {env : Env} {x : Str} : ∀ {names : List (Str × NameKind)},
    (names.map fun (n, k) => if (k == NameKind.free && env.scope.kind == .function && env.kindOf n == some .cell) then (n, NameKind.cell) else (n, k)).lookup x = some .cell ∨
    (names.map fun (n, k) => if (k == NameKind.free && env.scope.kind == .function && env.kindOf n == some .cell) then (n, NameKind.cell) else (n, k)).lookup x = some .free →
    (x, NameKind.free) ∈ names ∨ (x, NameKind.cell) ∈ names
  | [], h => by simp at h
  | (n, k) :: r, h => by
    have ih := @relabel_back env x r
    simp only [List.map_cons] at h
    have tl : (x, NameKind.free) ∈ r ∨ (x, NameKind.cell) ∈ r → (x, NameKind.free) ∈ (n, k) :: r ∨ (x, NameKind.cell) ∈ (n, k) :: r := fun q => q.imp (List.mem_cons_of_mem _) (List.mem_cons_of_mem _)
    by_cases hc : (k == NameKind.free && env.scope.kind == .function && env.kindOf n == some .cell) = true
    · rw [if_pos hc] at h
      have hk : k = .free := by
        simp only [Bool.and_eq_true] at hc
        simpa using hc.1.1
      simp only [List.lookup_cons] at h
      cases hx : x == n with
      | true =>
        have e : x = n := by simpa using hx
        subst e hk
        exact .inl List.mem_cons_self
      | false => simp only [hx] at h; exact tl (ih h)
    · rw [if_neg hc] at h
      simp only [List.lookup_cons] at h
      cases hx : x == n with
      | true =>
        have e : x = n := by simpa using hx
        subst e
        simp only [hx] at h
        rcases h with h | h
        · cases h; exact .inr List.mem_cons_self
        · cases h; exact .inl List.mem_cons_self
      | false => simp only [hx] at h; exact tl (ih h)
structure CompScope (osc : Scope) (N : List Str) (sc : Scope) (M : List Str) (ρ : List (Option Nat)) : Prop where
  kind : sc.kind = .function
  nocell : ∀ y ∈ sc.names, y.2 ≠ .cell
  own : ∀ y ∈ sc.names, y.2 = .local → sc.names.lookup y.1 = some .local
  fre : ∀ y ∈ sc.names, y.2 = .free → osc.names.lookup y.1 = some .cell ∨ osc.names.lookup y.1 = some .free
  len : ρ.length = M.length
  ren : ∀ p ∈ ρ.zip M, (match p.1 with | none => true | some i => decide (N[i]? = some p.2 ∧ sc.names.lookup p.2 = some .free)) = true
  nd : M.Nodup
noncomputable def subS (ρ : List (Option Nat)) (σ : St) : St := ρ.map fun o => match o with | none => none | some i => (σ[i]?).join
noncomputable def cxComp (X : Cx) (sc : Scope) (cl : List (Str × Addr)) (C : Addr) (M : List Str) (s : Shared) (H : Hp) (fp : List Addr) (xe : Value → Shared → Prop) : Cx where
  prog := X.prog
  w := X.w
  K := X.K
  mg := X.mg
  base := X.base
  A := X.A
  N := M
  s₀ := s
  H₀ := H
  env := compEnvC sc cl C X.env
  outer := X.stack
  stack := X.stack
  ex := fp
  fn := fun _ => false
  calm := X.calm
  pn := []
  xe := xe
theorem comp_loop {P : Program} {w : World} {A : Around} {R : Result → Shared → Prop} {s : Shared} {elt tg iter : Expr} {ifs : List Expr} {sc : Scope} {pos : Pos} {it acc : Value} {env : Env} (J : Nat → Shared → Prop)
    (turn : ∀ n s, J n s → wpAny (model P w) A (pyNext it) (fun r s1 => match r with
      | none => R (.ok .next) s1
      | some v => wpAny (model P w) A (letOwnedTupleGo tg it v) (fun _ s2 => wpAny (model P w) A (assign tg env v) (fun _ s3 =>
          wpAny (model P w) A (forIn ifs true fun c r => if r = true then do let ok ← isTrue c env (eval c env); pure (ForInStep.yield ok) else pure (ForInStep.yield r)) (fun ok s4 =>
            if ok = true then wpAny (model P w) A (eval elt env) (fun x s5 => wpAny (model P w) A (call (.builtin "list.append") [acc, x]) (fun _ s6 => ∃ m, m < n ∧ J m s6) (notedBy (model P w) A env fun e s' => R (.error e) s') s5)
              (notedBy (model P w) A env fun e s' => R (.error e) s') s4
            else ∃ m, m < n ∧ J m s4) (notedBy (model P w) A env fun e s' => R (.error e) s') s3) (notedBy (model P w) A env fun e s' => R (.error e) s') s2) (notedBy (model P w) A env fun e s' => R (.error e) s') s1)
      (notedBy (model P w) A env fun e s' => R (.error e) s') s)
    (n : Nat) (h : J n s) : codeAny (model P w) A (.compLoop (.ListComp elt [⟨tg, iter, ifs, 0⟩] sc pos) 0 it acc env) R s := by
  refine codeAny_loop rfl J (fun n s hJ => ?_) n h
  show wpAny (model P w) A ((compTurn (.ListComp elt [⟨tg, iter, ifs, 0⟩] sc pos) 0 it acc env).onRaise fun x => do noteFrame x env; theTreesLotGoes x) _ _ s
  refine wpAny_noted ?_
  rw [compTurn_list]
  refine wpAny_bind (wpAny_standAt (wpAny_bind (thn (turn n s hJ) fun r s1 h1 => ?_)))
  cases r with
  | none => exact wpAny_pure h1
  | some v =>
    refine wpAny_bind (thn h1 fun _ s2 h2 => wpAny_bind (thn h2 fun _ s3 h3 => wpAny_bind (thn h3 fun ok s4 h4 => ?_)))
    cases ok with
    | false => exact wpAny_pure ⟨rfl, h4⟩
    | true => exact wpAny_bind (wpAny_bind (thn h4 fun x s5 h5 => wpAny_bind (thn h5 fun _ s6 h6 => wpAny_pure (wpAny_pure ⟨rfl, h6⟩))))
noncomputable def PTs (X : Cx) (ifs : List Expr) (t : TT) : Prop :=
  ∀ (pins : List (Addr × Obj)) (s : Shared) (σ : St) (H : Hp) (Q : Bool → Hp → Prop), Inv X pins σ H s → t σ H Q →
    wpAny (model X.prog X.w) X.A (forIn ifs true fun c r => if r = true then do let ok ← isTrue c X.env (eval c X.env); pure (ForInStep.yield ok) else pure (ForInStep.yield r)) (TP X pins σ Q) X.xe s
noncomputable def tNoTest : TT := fun _ H Q => Q true H
theorem ntG {i : Nat} {v : V} {σ : St} {H : Hp} {A B : St → Hp → Prop} (h : A (σ.set i (some v)) H) : gName i v σ H (fun σ4 H4 => tNoTest σ4 H4 fun b H5 => if b = true then A σ4 H5 else B σ4 H5) := by
  show if true = true then A (σ.set i (some v)) H else B (σ.set i (some v)) H
  exact iteT h
theorem pts_nil {X : Cx} : PTs X [] tNoTest := fun _ _ _ H _ I h => wpAny_tests_nil ⟨H, I, h⟩
theorem pts_one {X : Cx} {c : Expr} {t : TT} (h : PT X c t) : PTs X [c] t := fun pins s σ H Q I q => wpAny_tests_one (h pins s σ H Q I q)
noncomputable def tComp (wi : TI) (ρ : List (Option Nat)) (g : TG) (tt : TT) (te : TE) : TE := fun σ H Q => wi σ H fun J H1 => ∀ D, H1 D = none → ∃ W : Nat → Nat → St → Hp → Prop, (∃ m, W 0 m (subS ρ σ) (upd H1 D (.lst []))) ∧ ∀ i m σ2 H2, W i m σ2 H2 →
  (J.stop i H2 ∧ Q (.ref D) H2) ∨ (J.go i H2 ∧ ∃ N : St → Hp → Prop, (∀ σ' H', N σ' H' → ∃ m', m' < m ∧ W (i + 1) m' σ' H') ∧ ∀ x H3, J.yld i H2 x H3 → g x σ2 H3 fun σ4 H4 => tt σ4 H4 fun b H5 =>
    if b = true then te σ4 H5 fun y H6 => ∃ ys, H6 D = some (.lst ys) ∧ ys.length < sizeLine ∧ N σ4 (upd H6 D (.lst (ys ++ [y])))
    else N σ4 H5)
theorem comp_by {J : It} {g : TG} {tt : TT} {te : TE} {Q : Hp → Prop} {σ : St} {H : Hp} {D : Addr} (n : Nat) (Pv : Nat → St → Hp → Prop) (h0 : Pv 0 σ (upd H D (.lst [])))
    (hs : ∀ i σ2 H2, i < n → Pv i σ2 H2 → J.go i H2 ∧ ∀ x H3, J.yld i H2 x H3 → g x σ2 H3 fun σ4 H4 => tt σ4 H4 fun b H5 =>
      if b = true then te σ4 H5 fun y H6 => ∃ ys, H6 D = some (.lst ys) ∧ ys.length < sizeLine ∧ Pv (i + 1) σ4 (upd H6 D (.lst (ys ++ [y]))) else Pv (i + 1) σ4 H5)
    (hd : ∀ σ2 H2, Pv n σ2 H2 → J.stop n H2 ∧ Q H2) :
    ∃ W : Nat → Nat → St → Hp → Prop, (∃ m, W 0 m σ (upd H D (.lst []))) ∧ ∀ i m σ2 H2, W i m σ2 H2 →
      (J.stop i H2 ∧ Q H2) ∨ (J.go i H2 ∧ ∃ N : St → Hp → Prop, (∀ σ' H', N σ' H' → ∃ m', m' < m ∧ W (i + 1) m' σ' H') ∧ ∀ x H3, J.yld i H2 x H3 → g x σ2 H3 fun σ4 H4 => tt σ4 H4 fun b H5 =>
        if b = true then te σ4 H5 fun y H6 => ∃ ys, H6 D = some (.lst ys) ∧ ys.length < sizeLine ∧ N σ4 (upd H6 D (.lst (ys ++ [y]))) else N σ4 H5) := by
  refine ⟨fun i m σ H => m = n - i ∧ i ≤ n ∧ Pv i σ H, ⟨n, by simp, Nat.zero_le _, h0⟩, ?_⟩
  rintro i m σ2 H2 ⟨rfl, hi, p⟩
  by_cases hlt : i < n
  · obtain ⟨h1, h2⟩ := hs i σ2 H2 hlt p
    exact .inr ⟨h1, Pv (i + 1), fun σ' H' p' => ⟨n - (i + 1), by omega, rfl, hlt, p'⟩, h2⟩
  · have e : i = n := by omega
    subst e
    exact .inl (hd σ2 H2 p)
section
variable {X : Cx} {tg elt iter : Expr} {ifs : List Expr} {sc : Scope} {pos : Pos} {M : List Str} {ρ : List (Option Nat)} {wi : TI} {g : TG} {tt : TT} {te : TE}
theorem comp_block (osc : Scope) (hosc : X.env.scope = osc) (N : List Str) (hN : X.N = N) (S : CompScope osc N sc M ρ) (hc : X.calm = true)
    (hg : ∀ cl C s H fp xe, PG (cxComp X sc cl C M s H fp xe) tg g) (ht : ∀ cl C s H fp xe, PTs (cxComp X sc cl C M s H fp xe) ifs tt) (he : ∀ cl C s H fp xe, PE (cxComp X sc cl C M s H fp xe) elt te)
    {pins : List (Addr × Obj)} {σ : St} {H : Hp} {s : Shared} {itv : Value} {Q : VK} {RR : Value → Addr → Result → Shared → Prop} (I : Inv X pins σ H s)
    (h2 : PIE X pins σ tg (fun J H1 => ∀ D, H1 D = none → ∃ W : Nat → Nat → St → Hp → Prop, (∃ m, W 0 m (subS ρ σ) (upd H1 D (.lst []))) ∧ ∀ i m σ2 H2, W i m σ2 H2 →
      (J.stop i H2 ∧ Q (.ref D) H2) ∨ (J.go i H2 ∧ ∃ N : St → Hp → Prop, (∀ σ' H', N σ' H' → ∃ m', m' < m ∧ W (i + 1) m' σ' H') ∧ ∀ x H3, J.yld i H2 x H3 → g x σ2 H3 fun σ4 H4 => tt σ4 H4 fun b H5 =>
        if b = true then te σ4 H5 fun y H6 => ∃ ys, H6 D = some (.lst ys) ∧ ys.length < sizeLine ∧ N σ4 (upd H6 D (.lst (ys ++ [y])))
        else N σ4 H5)) itv s)
    (hR : ∀ (D C : Addr) (H' : Hp) (s' : Shared) (mC : Str → Option Value), Inv X pins σ H' s' → s'.heap.Ns C mC → FpOk X pins H' C → Q (.ref D) H' → RR (.ref D) C (.ok .next) s') :
    wpAny (model X.prog X.w) X.A (newList []) (fun acc s3 => wpAny (model X.prog X.w) X.A (newFunctionEnv sc X.env.globals (closL X.env.cells sc.names []) [] X.env.qual none .none (some X.env)) (fun cenv s4 =>
      codeAny (model X.prog X.w) X.A (.compStart (.ListComp elt [⟨tg, iter, ifs, 0⟩] sc pos) 0 itv acc { cenv with scope := relabel sc X.env }) (RR acc cenv.locals) s4) X.xe s3) X.xe s := by
  subst hosc hN
  obtain ⟨it, fp, tn, J, H2, rfl, I2, T, st2, f2, q2⟩ := h2
  have hcells : ∀ y ∈ sc.names, y.2 = .free → ∃ c, X.env.cells.lookup y.1 = some c := fun y hy hf => I2.ok.has y.1 (S.fre y hy hf)
  have hclx : ∀ {x c}, (closL X.env.cells sc.names []).lookup x = some c → X.env.cells.lookup x = some c := fun {x c} e => (closL_lookup _ _ hcells e).elim id fun z => by simp at z
  generalize hcl : closL X.env.cells sc.names [] = cl at hclx ⊢
  refine wpAny_newObj_type (wpAny_newFunctionEnv S.nocell (by intro y hy; simp at hy) (fun h1 hns hsb => ?_) S.kind)
  dsimp only at hns hsb ⊢
  generalize hG : s.heap.push { cls := .type "list", dict := none, data := .seq ([] : List Value).toArray } = G at hns hsb ⊢
  have hC : G.objs.size = s.heap.objs.size + 1 := by rw [← hG, Heap.size_push]
  have old : ∀ b o, s.heap.get? b = some o → h1.get? b = some o := fun b o e =>
    hsb.extBut b o (Nat.ne_of_lt (by rw [hC]; exact Nat.lt_succ_of_lt (Heap.lt_size e))) (Heap.get?_push_of_some _ (hG ▸ Heap.get?_push_of_some _ e))
  have hD1 : h1.get? s.heap.objs.size = some { cls := .type "list", dict := none, data := .seq ([] : List Value).toArray } :=
    hsb.extBut _ _ (by rw [hC]; exact Nat.ne_of_lt (Nat.lt_succ_self _)) (Heap.get?_push_of_some _ (hG ▸ Heap.get?_push_size _ rfl))
  have hDn : H2 s.heap.objs.size = none := I2.hok.fresh (Nat.le_refl _)
  obtain ⟨W, ⟨m0, w0⟩, turn⟩ := q2 s.heap.objs.size hDn
  have hCle : s.heap.objs.size ≤ G.objs.size := by rw [hC]; exact Nat.le_succ _
  have hCD : G.objs.size ≠ s.heap.objs.size := by rw [hC]; exact Nat.succ_ne_self _
  generalize hxe : notedBy (model X.prog X.w) X.A (compEnvC sc cl G.objs.size X.env) (fun e s' => RR (.ref s.heap.objs.size) G.objs.size (.error e) s') = xe
  have fpC : ∀ b ∈ fp, b ≠ G.objs.size := fun b hb => by
    obtain ⟨o, e, _⟩ := T.obj 0 _ st2 b hb
    have := Heap.lt_size e
    exact Nat.ne_of_lt (Nat.lt_of_lt_of_le this hCle)
  have fpS : ∀ b ∈ fp, b ∉ frs X.stack := fun b hb z => by
    obtain ⟨f0, f1, f3, _⟩ := f2 b hb
    rcases List.mem_cons.mp (I2.stkSub b z) with e | e
    · exact f1 e
    · exact f3 e
  have hok : (cxComp X sc cl G.objs.size M s H2 fp xe).Ok := by
    refine ⟨I2.ok.mod, S.kind, I2.ok.glob, I2.ok.blt, hCle, fun x y c e1 e2 => I2.ok.inj x y c (hclx e1) (hclx e2), fun x hx => ?_, (fun x c e _ => absurd (show false = true from e) Bool.false_ne_true), I2.ok.hd, I2.ok.frames, .inl rfl, fun b hb => ⟨fpC b hb, fun x c e => (f2 b hb).2.2.2.2.1 x c (hclx e)⟩,
      I2.bs, Nat.le_trans I2.ok.bsz I2.sz, fun b o e hb => ?_, fpS, I2.stack, I2.stkFree⟩
    · rcases relabel_back (names := sc.names) (env := X.env) hx with q | q
      · rw [← hcl]; exact closL_has _ _ q
      · exact absurd rfl (S.nocell _ q)
    · rcases (f2 b hb).2.2.2.1 with z | z
      · exact I2.ok.noex b o e z
      · exact absurd (Nat.lt_of_lt_of_le (Heap.lt_size e) (Nat.le_trans I2.ok.bsz z)) (Nat.lt_irrefl _)
  have I4 : Inv (cxComp X sc cl G.objs.size M s H2 fp xe) [] (subS ρ σ) (upd H2 s.heap.objs.size (.lst [])) { s with heap := h1, toks := s.toks + ([] : List (Str × Value)).length } := by
    refine ⟨hok, rfl, I2.bare, Un.laid old (Nat.le_refl _) hDn, ⟨_, hns, fun j x v e1 e2 _ => ?_⟩, fun x c e => ?_, ?_, fun x c e => ?_, fun p hp => absurd (show p ∈ ([] : List (Addr × Obj)) from hp) (by simp), I2.hok.laid old (Nat.le_refl _) ⟨by show 0 ≤ sizeLine; decide, [], 0, .nil, hD1⟩, ?_⟩
    · unfold subS at e2
      rw [List.getElem?_map] at e2
      cases q : ρ[j]? with
      | none => rw [q] at e2; cases e2
      | some o =>
        rw [q] at e2
        cases o with
        | none => cases e2
        | some i =>
          have e2' : (σ[i]?).join = some v := Option.some.inj e2
          have e3 : σ[i]? = some (some v) := by
            cases z : σ[i]? with
            | none => rw [z] at e2'; cases e2'
            | some y => rw [z] at e2'; cases y with
              | none => cases e2'
              | some y => cases e2'; rfl
          have hz : (ρ.zip M)[j]? = some (some i, x) := List.getElem?_zip_eq_some.mpr ⟨q, e1⟩
          have hr := S.ren (some i, x) (List.mem_of_getElem? hz)
          obtain ⟨r1, r2⟩ := of_decide_eq_true hr
          obtain ⟨m, hn, hl⟩ := I2.loc
          have hfr := S.fre _ (PySem.mem_of_lookup r2) rfl
          obtain ⟨u, ru, lk⟩ := hl i x v r1 e3 (hfr.elim (fun z => .inr (.inl z)) fun z => .inr (.inr z))
          refine ⟨u, ru, ?_⟩
          rcases lk with ⟨k, _⟩ | ⟨_, c, hcc, cell⟩
          · have k' : X.env.scope.names.lookup x = some .local := k
            rcases hfr with z | z
            · rw [k'] at z; cases z
            · rw [k'] at z; cases z
          · obtain ⟨c', hc'⟩ := closL_has (cells := X.env.cells) sc.names [] (PySem.mem_of_lookup r2)
            rw [hcl] at hc'
            have := hclx hc'
            rw [hcc] at this
            cases this
            obtain ⟨oc, ho, hd⟩ := cell
            exact .inr ⟨relabel_free r2, _, hc', oc, old _ _ ho, hd⟩
    · obtain ⟨v, oc, ho, hd⟩ := I2.cell x c (hclx e)
      exact ⟨v, oc, old _ _ ho, hd⟩
    · show upd H2 s.heap.objs.size (.lst []) G.objs.size = none
      rw [upd_ne hCD]
      exact I2.hok.fresh hCle
    · show upd H2 s.heap.objs.size (.lst []) c = none
      obtain ⟨v, oc, ho, hd⟩ := I2.cell x c (hclx e)
      rw [upd_ne (Nat.ne_of_lt (Heap.lt_size ho))]
      exact I2.freeC x c (hclx e)
    · show (subS ρ σ).length = M.length
      unfold subS
      rw [List.length_map, S.len]
  have st4 : tn 0 h1 := T.keep 0 _ _ st2 fun b _ o e => old b o e
  have fr4 : ∀ b ∈ fp, upd H2 s.heap.objs.size (.lst []) b = none := fun b hb => by
    obtain ⟨o, e, _⟩ := T.obj 0 _ st2 b hb
    rw [upd_ne (Nat.ne_of_lt (Heap.lt_size e))]
    exact (f2 b hb).1
  have stat : ∀ {H' : Hp}, (∀ b ∈ fp, H' b = none) → ∀ b ∈ fp, FpOk (cxComp X sc cl G.objs.size M s H2 fp xe) [] H' b := fun hn b hb =>
    ⟨hn b hb, fpC b hb, fpS b hb, .inl hb, fun x c e => (f2 b hb).2.2.2.2.1 x c (hclx e), fun p hp => absurd (show p ∈ ([] : List (Addr × Obj)) from hp) (by simp)⟩
  have loop : codeAny (model X.prog X.w) X.A (.compLoop (.ListComp elt [⟨tg, iter, ifs, 0⟩] sc pos) 0 (.ref it) (.ref s.heap.objs.size) (compEnvC sc cl G.objs.size X.env)) (RR (.ref s.heap.objs.size) G.objs.size)
      { s with heap := h1, toks := s.toks + ([] : List (Str × Value)).length } := by
    refine comp_loop (fun n s' => ∃ i σ' H', Inv (cxComp X sc cl G.objs.size M s H2 fp xe) [] σ' H' s' ∧ tn i s'.heap ∧ (∀ b ∈ fp, H' b = none) ∧ W i n σ' H') ?_ m0 ⟨0, _, _, I4, st4, fr4, w0⟩
    rw [hxe]
    rintro n s3 ⟨i, σ3, H3, I3, st3, fr3, w3⟩
    rcases turn i n σ3 H3 w3 with ⟨stop, qn⟩ | ⟨go, N, hN, step⟩
    · refine thn (T.done (cxComp X sc cl G.objs.size M s H2 fp xe) rfl rfl rfl hc i [] s3 σ3 H3 xe I3 (stat fr3) st3 stop) fun r s4 ⟨hr, I5⟩ => ?_
      subst hr
      obtain ⟨mC, nC, _⟩ := I5.loc
      have I6 : Inv X pins σ H3 s4 := I2.call' I5.os I5.base I5.hok I5.bare fun b hb => ⟨(f2 b hb).2.2.2.1, (f2 b hb).2.1, (f2 b hb).2.2.2.2.1, (f2 b hb).2.2.2.2.2⟩
      exact hR _ _ H3 s4 mC I6 nC (I2.fpOk hCle I5.free) qn
    · refine thn (T.item (cxComp X sc cl G.objs.size M s H2 fp xe) rfl rfl rfl hc i [] s3 σ3 H3 xe I3 (stat fr3) st3 go) fun r s4 ⟨u, hr, h4⟩ => ?_
      subst hr
      refine thn h4 fun _ s5 ⟨x, H5, I5, r5, y5, st5, fr5⟩ => ?_
      have I5' := I5.pinned (stat fr5) (T.obj _ _ st5)
      refine thn (hg cl G.objs.size s H2 fp xe _ s5 σ3 H5 x u _ I5' r5 (step x H5 y5)) fun _ s6 ⟨σ6, H6, I6, q6⟩ => ?_
      have fin : ∀ {s7 : Shared} {σ7 : St} {H7 : Hp}, Inv (cxComp X sc cl G.objs.size M s H2 fp xe) ([] ++ pinsAt fp s5.heap) σ7 H7 s7 → (∃ m', m' < n ∧ W (i + 1) m' σ7 H7) →
          ∃ m, m < n ∧ ∃ i σ' H', Inv (cxComp X sc cl G.objs.size M s H2 fp xe) [] σ' H' s7 ∧ tn i s7.heap ∧ (∀ b ∈ fp, H' b = none) ∧ W i m σ' H' := fun {s7 σ7 H7} I7 ⟨m', hm, w7⟩ => by
        refine ⟨m', hm, i + 1, σ7, H7, I7.unpinned, T.keep _ _ _ st5 fun b hb o e => (I7.pin (b, o) (List.mem_append_right _ (List.mem_append_right _ (mem_pinsAt hb e)))).1, fun b hb => ?_, w7⟩
        obtain ⟨o, e, d⟩ := T.obj _ _ st5 b hb
        exact (I7.pin (b, o) (List.mem_append_right _ (List.mem_append_right _ (mem_pinsAt hb e)))).2.1
      refine thn (ht cl G.objs.size s H2 fp xe _ s6 σ6 H6 _ I6 q6) fun ok s7 ⟨H7, I7, q7⟩ => ?_
      cases ok with
      | false =>
        rw [if_neg Bool.false_ne_true] at q7 ⊢
        exact fin I7 (hN _ _ q7)
      | true =>
        rw [if_pos rfl] at q7 ⊢
        refine thn (he cl G.objs.size s H2 fp xe _ s7 σ6 H7 _ I7 q7) fun y s8 ⟨yv, H8, I8, r8, ys, hys, hlt, q8⟩ => ?_
        obtain ⟨z, its, k, rv, hl, e⟩ := I8.lstM hys
        refine call_meets F.slot_list_append ⟨_, e, rfl⟩ F.entry_list_append (F.args_list_append_2 _ _) (PySem.list_append _ its.toArray k y (by rw [List.size_toArray]; omega)) ⟨e, ?_⟩
        exact fin (I8.lset (its' := its ++ [y]) hys e (by simp) (rv.append (.cons r8 .nil)) (by rw [List.length_append, List.length_singleton]; omega)) (hN _ _ q8)
  exact codeAny_compStart_list loop (T.self X.A 0 _ _ _ st4 loop)
theorem pe_comp (osc : Scope) (N : List Str) (S : CompScope osc N sc M ρ) (hi : PI X tg iter wi) (hg : ∀ cl C s H fp xe, PG (cxComp X sc cl C M s H fp xe) tg g) (ht : ∀ cl C s H fp xe, PTs (cxComp X sc cl C M s H fp xe) ifs tt)
    (he : ∀ cl C s H fp xe, PE (cxComp X sc cl C M s H fp xe) elt te) (hosc : X.env.scope = osc := by rfl) (hN : X.N = N := by rfl) (hc : X.calm = true := by rfl) (hs : ∀ x, foldedSetIterable iter X.env x = pure x := by intro _; rfl) :
    PE X (.ListComp elt [⟨tg, iter, ifs, 0⟩] sc pos) (tComp wi ρ g tt te) := by
  intro pins s σ H Q I h
  have hcells : ∀ y ∈ sc.names, y.2 = .free → ∃ c, X.env.cells.lookup y.1 = some c := fun y hy hf => I.ok.has y.1 (by show X.env.scope.names.lookup y.1 = _ ∨ X.env.scope.names.lookup y.1 = _; rw [hosc]; exact S.fre y hy hf)
  rw [eval_ListComp]
  refine wpAny_comprehension_free (M := model X.prog X.w) (A := X.A) (E := X.xe) (e := .ListComp elt [⟨tg, iter, ifs, 0⟩] sc pos) rfl hs (closure_pure hcells) S.kind S.own (thn (hi pins s σ H _ I h) fun v s1 h1 => thn h1 fun itv s2 h2 => ?_)
  obtain ⟨_, _, _, _, _, _, I2, _⟩ := id h2
  refine comp_block (RR := fun acc C => compPost (model X.prog X.w) X.A X.xe none (EP X pins σ Q) acc C) osc hosc N hN S hc hg ht he I2 h2 fun D C H' s' mC I' nC fC q => ?_
  refine ⟨mC, nC, fun h' sb => ?_⟩
  obtain ⟨f0, f1, _, f3, f4, f5⟩ := fC
  exact ⟨.ref D, H', I'.turned (t' := s'.toks) (fun b o hb e => (sb.2 b hb).trans e) f0 f1 f3 f4 f5, rfl, q⟩
theorem ps_setC {j : Nat} {x : Str} {px spos : Pos} (osc : Scope) (N : List Str) (S : CompScope osc N sc M ρ) (hNd : X.N.Nodup) (hj : X.N[j]? = some x) (hx : Loc X.env.scope x) (hi : PI X tg iter wi) (hg : ∀ cl C s H fp xe, PG (cxComp X sc cl C M s H fp xe) tg g)
    (ht : ∀ cl C s H fp xe, PTs (cxComp X sc cl C M s H fp xe) ifs tt) (he : ∀ cl C s H fp xe, PE (cxComp X sc cl C M s H fp xe) elt te)
    (hsw : swapsWith (.ListComp elt [⟨tg, iter, ifs, 0⟩] sc pos) (some (.Name x px)) spos.line X.env = pure true := by rfl) (hosc : X.env.scope = osc := by rfl) (hN : X.N = N := by rfl) (hc : X.calm = true := by rfl) (hs : ∀ x, foldedSetIterable iter X.env x = pure x := by intro _; rfl)
    (hf : X.fn x = true ∨ X.env.scope.names.lookup x = some .local := by first | exact .inl rfl | exact .inr rfl | assumption) :
    PS X (.Assign [.Name x px] (.ListComp elt [⟨tg, iter, ifs, 0⟩] sc pos) spos) (tAsg (tComp wi ρ g tt te) (gName j)) := by
  intro pins s σ H D I h
  have hcells : ∀ y ∈ sc.names, y.2 = .free → ∃ c, X.env.cells.lookup y.1 = some c := fun y hy hf => I.ok.has y.1 (by show X.env.scope.names.lookup y.1 = _ ∨ X.env.scope.names.lookup y.1 = _; rw [hosc]; exact S.fre y hy hf)
  rw [exec_Assign_Name_used _ _ _ _ hsw]
  refine wpAny_bind (wpAny_standAt (wpAny_bind ?_))
  show wpAny (model X.prog X.w) X.A (do let _ ← comprehension (.ListComp elt [⟨tg, iter, ifs, 0⟩] sc pos) sc X.env (firstIterPos [⟨tg, iter, ifs, 0⟩] pos) (newList []) false (eval iter X.env) (some (assign (.Name x px) X.env))) _ X.xe s
  refine wpAny_bind (thn (Q := fun _ s' => SP X pins D .next s') (wpAny_comprehension_free (M := model X.prog X.w) (A := X.A) (E := X.xe) (e := .ListComp elt [⟨tg, iter, ifs, 0⟩] sc pos) (use := some (assign (.Name x px) X.env)) rfl hs (closure_pure hcells) S.kind S.own
    (thn (hi pins s σ H _ I h) fun v s1 h1 => thn h1 fun itv s2 h2 => ?_)) fun _ s' hq => wpAny_pure (wpAny_pure hq))
  obtain ⟨_, _, _, _, _, _, I2, _⟩ := id h2
  refine comp_block (Q := fun v H' => gName j v σ H' D.nx) (RR := fun acc C => compPost (model X.prog X.w) X.A X.xe (some (assign (.Name x px) X.env)) (fun _ s' => SP X pins D .next s') acc C) osc hosc N hN S hc hg ht he I2 h2 fun D' C H' s' mC I' nC fC q => ?_
  show wpAny _ _ (assign (.Name x px) X.env (.ref D')) _ _ s'
  refine wpAny_assign_Name (store_ok2 I' hNd hj hx (v := .ref D') rfl (fun s3 I3 ⟨a, sb, ha⟩ => ?_) hf)
  have hCa : C ≠ a := by
    rcases ha with e | e
    · rw [e]; exact fC.2.1
    · exact fun z => fC.2.2.2.2.1 x a e z.symm
  refine ⟨mC, nC.sameBut sb hCa, fun h' sb2 => ?_⟩
  obtain ⟨f0, f1, _, f3, f4, f5⟩ := fC
  exact ⟨_, H', I3.turned (t' := s3.toks) (fun b o hb e => (sb2.2 b hb).trans e) f0 f1 f3 f4 f5, q⟩
end
end L2
set_option Elab.async false
set_option linter.all false
set_option maxRecDepth 100000
set_option maxHeartbeats 16000000
namespace L2
open PySem PySem.Spec PyProof.Rows
section
variable {X : Cx} {tg : Expr}
theorem ix_listK {K : PySem.W.Frag} (h : X.K = K) : IxR X (rIxL K) := h ▸ ix_list
theorem ix_tupK {K : PySem.W.Frag} (h : X.K = K) : IxR X (rIxT K) := h ▸ ix_tup
theorem op_in_seqK {K : PySem.W.Frag} (h : X.K = K) : OpR X (compareOp .In) (rIn K false) := h ▸ op_in_seq
theorem op_notin_seqK {K : PySem.W.Frag} (h : X.K = K) : OpR X (compareOp .NotIn) (rIn K true) := h ▸ op_notIn_seq
theorem call_tuple_ofK {K : PySem.W.Frag} (h : X.K = K) : CallR X (.type "tuple") (fun xs H Q => ∃ p ys, xs = [.ref p] ∧ ((SqL K H p ys ∧ ∀ l, H l = none → Q (.ref l) (upd H l (.tup ys))) ∨ (SqT K H p ys ∧ Q (.ref p) H))) := h ▸ call_tuple_of
theorem pg_tupK {K : PySem.W.Frag} {pos : Pos} {es : List Expr} {k : Nat} {t : TGs} {n : Nat} (hK : X.K = K) (hc : X.calm = true) (h : PGs X es t) (hn : (assignEach es X.env).length = n := by rfl) (hst : (assignEach es X.env).findIdx? (·.1) = none := by rfl) : PG X (.Tuple es k pos) (gTup K n t) := hK ▸ pg_tup hc h hn hst
end
end L2
set_option Elab.async false
set_option linter.all false
set_option maxRecDepth 100000
set_option maxHeartbeats 16000000
namespace L2
open PySem PySem.Spec PyProof.Rows
end L2
set_option Elab.async false
set_option linter.all false
set_option maxRecDepth 100000
set_option maxHeartbeats 16000000
namespace L2
open PySem PySem.Spec PyProof.Rows
section
variable {X : Cx} {elts : List Expr} {k : Nat} {tpos : Pos}
end
end L2
set_option Elab.async false
set_option linter.all false
set_option maxRecDepth 100000
set_option maxHeartbeats 16000000
namespace L2
open PySem PySem.Spec PyProof.Rows
end L2
set_option Elab.async false
set_option linter.all false
set_option maxRecDepth 100000
set_option maxHeartbeats 16000000
namespace L2
open PySem PySem.Spec PyProof.Rows
section
variable {κ : Type} [DecidableEq κ]
noncomputable def valV (kvs : List (κ × V)) (k : κ) : Option V := (kvs.find? fun kv => decide (kv.1 = k)).map (·.2)
noncomputable def putK (kvs : List (κ × V)) (k : κ) (v : V) : List (κ × V) :=
  if (kvs.any fun kv => decide (kv.1 = k)) = true then kvs.map (fun kv => if kv.1 = k then (kv.1, v) else kv) else kvs ++ [(k, v)]
theorem valV_pos {p : κ × V} {r : List (κ × V)} {k : κ} (e : p.1 = k) : valV (p :: r) k = some p.2 := by simp [valV, List.find?_cons, e]
theorem valV_neg {p : κ × V} {r : List (κ × V)} {k : κ} (e : ¬ p.1 = k) : valV (p :: r) k = valV r k := by simp [valV, List.find?_cons, e]
theorem valV_any (k : κ) : ∀ kvs : List (κ × V), (kvs.any fun kv => decide (kv.1 = k)) = (valV kvs k).isSome
  | [] => rfl
  | p :: r => by
    rw [List.any_cons]
    by_cases e : p.1 = k
    · simp only [valV_pos e, decide_eq_true e, Bool.true_or, Option.isSome_some]
    · rw [valV_neg e, decide_eq_false e, Bool.false_or]; exact valV_any k r
theorem valV_map (k j : κ) (y : V) : ∀ kvs : List (κ × V), valV (kvs.map fun kv => if kv.1 = k then (kv.1, y) else kv) j = (valV kvs j).map fun x => if j = k then y else x
  | [] => rfl
  | p :: r => by
    have ih := valV_map k j y r
    rw [List.map_cons]
    by_cases h : p.1 = k
    · rw [if_pos h]
      by_cases e : p.1 = j
      · rw [valV_pos (p := (p.1, y)) e, valV_pos e, Option.map_some, if_pos (e.symm.trans h)]
      · rw [valV_neg (p := (p.1, y)) e, valV_neg e, ih]
    · rw [if_neg h]
      by_cases e : p.1 = j
      · rw [valV_pos (p := p) e, valV_pos e, Option.map_some, if_neg (fun z => h (e.trans z))]
      · rw [valV_neg (p := p) e, valV_neg e, ih]
theorem valV_snoc (k j : κ) (y : V) : ∀ kvs : List (κ × V), valV kvs k = none → valV (kvs ++ [(k, y)]) j = if j = k then some y else valV kvs j
  | [], _ => by
    by_cases e : k = j
    · rw [if_pos e.symm]; exact valV_pos (p := (k, y)) e
    · rw [if_neg (fun z => e z.symm)]; exact valV_neg (p := (k, y)) e
  | p :: r, hn => by
    rw [List.cons_append]
    have hk : ¬ p.1 = k := fun z => by rw [valV_pos z] at hn; cases hn
    rw [valV_neg hk] at hn
    have ih := valV_snoc k j y r hn
    by_cases e : p.1 = j
    · rw [valV_pos e, valV_pos e, if_neg (fun z => hk (e.trans z))]
    · rw [valV_neg e, valV_neg e, ih]
theorem valV_put (kvs : List (κ × V)) (k j : κ) (y : V) : valV (putK kvs k y) j = if j = k then some y else valV kvs j := by
  unfold putK
  by_cases a : (kvs.any fun kv => decide (kv.1 = k)) = true
  · rw [if_pos a, valV_map]
    rw [valV_any] at a
    by_cases e : j = k
    · obtain ⟨x, hx⟩ := Option.isSome_iff_exists.mp a
      rw [if_pos e, e, hx, Option.map_some, if_pos rfl]
    · rw [if_neg e]
      cases valV kvs j with
      | none => rfl
      | some x => rw [Option.map_some, if_neg e]
  · rw [if_neg a]
    refine valV_snoc k j y kvs ?_
    rw [valV_any] at a
    cases q : valV kvs k with
    | none => rfl
    | some x => rw [q] at a; exact (a rfl).elim
theorem length_putK (kvs : List (κ × V)) (k : κ) (v : V) : (putK kvs k v).length ≤ kvs.length + 1 := by
  unfold putK
  split
  · rw [List.length_map]; omega
  · rw [List.length_append, List.length_cons, List.length_nil]; omega
theorem RelO.isSome_eq {o : Option V} {u : Option Value} (r : RelO o u) : o.isSome = u.isSome := by
  cases o with
  | none => cases u with
    | none => rfl
    | some _ => exact (show False from r).elim
  | some _ => cases u with
    | none => exact (show False from r).elim
    | some _ => rfl
theorem RelO.getD {o : Option V} {u : Option Value} {d : V} {d' : Value} (r : RelO o u) (rd : RelV d d') : RelV (o.getD d) (u.getD d') := by
  cases o with
  | none => cases u with
    | none => exact rd
    | some _ => exact (show False from r).elim
  | some _ => cases u with
    | none => exact (show False from r).elim
    | some _ => exact r
theorem KV.val {kvs : List (κ × V)} {vs : List (κ × Value)} (r : KV kvs vs) (k : κ) : RelO (valV kvs k) (valueAt vs k) := by
  unfold KV at r
  induction r with
  | nil => exact True.intro
  | @cons p q ps qs h t ih =>
    obtain ⟨h1, h2⟩ := h
    by_cases e : p.1 = k
    · have e' : q.1 = k := h1.symm.trans e
      have b : valueAt (q :: qs) k = some q.2 := by simp [valueAt, List.find?_cons, e']
      rw [valV_pos e, b]; exact h2
    · have e' : ¬ q.1 = k := fun z => e (h1.trans z)
      have b : valueAt (q :: qs) k = valueAt qs k := by simp [valueAt, List.find?_cons, e']
      rw [valV_neg e, b]; exact ih
theorem KV.any {kvs : List (κ × V)} {vs : List (κ × Value)} (r : KV kvs vs) (k : κ) : (kvs.any fun kv => decide (kv.1 = k)) = vs.any fun kv => decide (kv.1 = k) := by
  unfold KV at r
  induction r with
  | nil => rfl
  | cons h t ih => rw [List.any_cons, List.any_cons, ih, h.1]
theorem KV.repl {kvs : List (κ × V)} {vs : List (κ × Value)} (r : KV kvs vs) (k : κ) {y : V} {u : Value} (ry : RelV y u) :
    KV (kvs.map fun kv => if kv.1 = k then (kv.1, y) else kv) (vs.map fun kv => if kv.1 = k then (kv.1, u) else kv) := by
  unfold KV at r ⊢
  induction r with
  | nil => exact .nil
  | @cons p q ps qs h t ih =>
    rw [List.map_cons, List.map_cons]
    refine .cons ?_ ih
    obtain ⟨h1, h2⟩ := h
    by_cases e : p.1 = k
    · rw [if_pos e, if_pos (h1.symm.trans e)]; exact ⟨h1, ry⟩
    · rw [if_neg e, if_neg (fun z => e (h1.trans z))]; exact ⟨h1, h2⟩
theorem KV.put {kvs : List (κ × V)} {vs : List (κ × Value)} (r : KV kvs vs) (k : κ) {y : V} {u : Value} (ry : RelV y u) : KV (putK kvs k y) (stored vs k u) := by
  unfold putK stored
  rw [r.any k]
  by_cases e : (vs.any fun kv => decide (kv.1 = k)) = true
  · rw [if_pos e, if_pos e]; exact r.repl k ry
  · rw [if_neg e, if_neg e]; exact Paired.snoc r ⟨rfl, ry⟩
theorem KV.length {kvs : List (κ × V)} {vs : List (κ × Value)} (r : KV kvs vs) : kvs.length = vs.length := Paired.length r
end
theorem kV_is {P : Program} {w : World} {k : Key} {u : Value} (r : RelV (kV k) u) : (mixKind P w).is k u = true := by
  cases k with
  | inl i => obtain ⟨t, e⟩ := (show ∃ t, u = Value.int i t from r); subst e; exact mixKind_int P w i t
  | inr x => obtain ⟨t, e⟩ := (show ∃ t, u = Value.str x t from r); subst e; exact mixKind_str P w x t
theorem items_are {P : Program} {w : World} : ∀ {ks : List Key} {us : List Value}, Vals (ks.map kV) us → ItemsAre (mixKind P w) ks us
  | [], _, r => by rw [List.map_nil] at r; cases r; exact .nil
  | k :: ks, _, r => by
    rw [List.map_cons] at r
    cases r with
    | cons h t => exact .cons (kV_is h) (items_are t)
noncomputable abbrev KT (H : Hp) : List (List Key × V) → List (List Key × Addr × Value) → Prop := Paired fun p q => p.1 = q.1 ∧ H q.2.1 = some (.tup (p.1.map kV)) ∧ RelV p.2 q.2.2
theorem KT.val {H : Hp} {kvs : List (List Key × V)} {xs : List (List Key × Addr × Value)} (r : KT H kvs xs) (k : List Key) : RelO (valV kvs k) ((atKey xs k).map (·.2)) := by
  induction r with
  | nil => exact True.intro
  | @cons p q ps qs h t ih =>
    obtain ⟨h1, _, h2⟩ := h
    by_cases e : p.1 = k
    · have e' : q.1 = k := h1.symm.trans e
      have b : atKey (q :: qs) k = some q.2 := by simp [atKey, List.find?_cons, e']
      rw [valV_pos e, b]; exact h2
    · have e' : ¬ q.1 = k := fun z => e (h1.trans z)
      have b : atKey (q :: qs) k = atKey qs k := by simp [atKey, List.find?_cons, e']
      rw [valV_neg e, b]; exact ih
theorem KT.repl {H : Hp} {kvs : List (List Key × V)} {xs : List (List Key × Addr × Value)} (r : KT H kvs xs) (k : List Key) {y : V} {u : Value} (ry : RelV y u) :
    KT H (kvs.map fun kv => if kv.1 = k then (kv.1, y) else kv) (xs.map (putAt k u)) := by
  induction r with
  | nil => exact .nil
  | @cons p q ps qs h t ih =>
    rw [List.map_cons, List.map_cons]
    refine .cons ?_ ih
    obtain ⟨h1, h2, h3⟩ := h
    unfold putAt
    by_cases e : p.1 = k
    · rw [if_pos e, if_pos (h1.symm.trans e)]; exact ⟨h1, h2, ry⟩
    · rw [if_neg e, if_neg (fun z => e (h1.trans z))]; exact ⟨h1, h2, h3⟩
theorem KT.put {H : Hp} {kvs : List (List Key × V)} {xs : List (List Key × Addr × Value)} (r : KT H kvs xs) (k : List Key) {b : Addr} {y : V} {u : Value} (hb : H b = some (.tup (k.map kV))) (ry : RelV y u) :
    KT H (putK kvs k y) (storedH xs k b u) := by
  have e : (kvs.any fun kv => decide (kv.1 = k)) = (atKey xs k).isSome := by
    rw [valV_any, (r.val k).isSome_eq, Option.isSome_map]
  unfold putK storedH
  rw [e]
  by_cases q : (atKey xs k).isSome = true
  · rw [if_pos q, if_pos q]; exact r.repl k ry
  · rw [if_neg q, if_neg q]; exact Paired.snoc r ⟨rfl, hb, ry⟩
theorem KT.keeps {H H' : Hp} {kvs : List (List Key × V)} {xs : List (List Key × Addr × Value)} (r : KT H kvs xs) (ht : ∀ b ys, H b = some (.tup ys) → H' b = some (.tup ys)) : KT H' kvs xs :=
  Paired.mapP r fun _ _ z => ⟨z.1, ht _ _ z.2.1, z.2.2⟩
section
variable {P : Program} {w : World} {H : Hp} {h : Heap} {a : Addr}
theorem rd_of {u : HO} (ok : HOk P w H h) (e : Rd H a u) : ObjOk P w H h a u := e.ok ok
theorem dk_rd {kvs : List (Key × V)} (ok : HOk P w H h) (e : Rd H a (.dK kvs)) : kvs.length ≤ sizeLine ∧ (a == sysModules) = false ∧ ∃ vs, KV kvs vs ∧ h.DictOf (mixKind P w) a vs :=
  show ObjOk P w H h a (.dK kvs) from rd_of ok e
theorem dk_of {kvs : List (Key × V)} (ok : HOk P w H h) (e : H a = some (.dK kvs)) : kvs.length ≤ sizeLine ∧ (a == sysModules) = false ∧ ∃ vs, KV kvs vs ∧ h.DictOf (mixKind P w) a vs := dk_rd ok (.inl e)
theorem key_of {ks : List Key} (ok : HOk P w H h) (e : H a = some (.tup (ks.map kV))) : (tupleKind (mixKind P w)).is h ks a := by
  obtain ⟨_, its, r, o, h1, h2, n, h3⟩ := (show ObjOk P w H h a (.tup (ks.map kV)) from ok a _ e)
  exact ⟨o, its.toArray, n, h1, h2, h3, by simpa using items_are r⟩
theorem dt_rd {kvs : List (List Key × V)} (ok : HOk P w H h) (e : Rd H a (.dT kvs)) : kvs.length ≤ sizeLine ∧ (a == sysModules) = false ∧
    ∃ xs, KT H kvs xs ∧ h.DictOfH (tupleKind (mixKind P w)) a xs := by
  obtain ⟨z, y, xs, r, o, es, ep, h1, h2, h3, h4, h5⟩ := (show ObjOk P w H h a (.dT kvs) from rd_of ok e)
  refine ⟨z, y, xs, r, o, es, ep, h1, h2, h3, h4, fun x hx => ?_, h5⟩
  have all : ∀ {l : List (List Key × V)} {m : List (List Key × Addr × Value)}, KT H l m → ∀ x ∈ m, (tupleKind (mixKind P w)).is h x.1 x.2.1 := by
    intro l m q
    induction q with
    | nil => intro x hx; exact nomatch hx
    | @cons p q ps qs hq t ih =>
      intro x hx
      rcases List.mem_cons.mp hx with e | hx
      · subst e
        exact key_of ok (by rw [← hq.1]; exact hq.2.1)
      · exact ih x hx
  exact all r x hx
theorem dt_of {kvs : List (List Key × V)} (ok : HOk P w H h) (e : H a = some (.dT kvs)) : kvs.length ≤ sizeLine ∧ (a == sysModules) = false ∧
    ∃ xs, KT H kvs xs ∧ h.DictOfH (tupleKind (mixKind P w)) a xs := dt_rd ok (.inl e)
end
noncomputable def DGet (H : Hp) (a : Addr) (y : V) (r : Option V) : Prop :=
  (∃ kvs k, Rd H a (.dK kvs) ∧ y = kV k ∧ r = valV kvs k) ∨ ∃ kvs k b, Rd H a (.dT kvs) ∧ y = .ref b ∧ H b = some (.tup (k.map kV)) ∧ r = valV kvs k
noncomputable def DPut (H : Hp) (a : Addr) (y v : V) (H' : Hp) : Prop :=
  (∃ kvs k, H a = some (.dK kvs) ∧ y = kV k ∧ kvs.length < sizeLine ∧ H' = upd H a (.dK (putK kvs k v))) ∨
  ∃ kvs k b, H a = some (.dT kvs) ∧ y = .ref b ∧ H b = some (.tup (k.map kV)) ∧ kvs.length < sizeLine ∧ H' = upd H a (.dT (putK kvs k v))
theorem DGet.k {H : Hp} {a : Addr} {kvs : List (Key × V)} {k : Key} (e : H a = some (.dK kvs)) : DGet H a (kV k) (valV kvs k) := .inl ⟨kvs, k, .inl e, rfl, rfl⟩
theorem DPut.k {H : Hp} {a : Addr} {kvs : List (Key × V)} {k : Key} {v : V} (e : H a = some (.dK kvs)) (hl : kvs.length < sizeLine) : DPut H a (kV k) v (upd H a (.dK (putK kvs k v))) := .inl ⟨kvs, k, e, rfl, hl, rfl⟩
section
variable {X : Cx} {pins : List (Addr × Obj)} {σ : St} {H : Hp} {s : Shared} {a : Addr} {y v : V} {u r : Value} {o : Option V} {A : Around} {E : Value → Shared → Prop}
theorem Inv.big (I : Inv X pins σ H s) : sysModules < s.heap.objs.size := by
  have h : mainGlobals < s.heap.objs.size := (I.mod.glob.keeps I.bk).lt
  exact Nat.lt_trans (by decide) h
theorem d_getItem {Q : Value → Shared → Prop} (hu : A.units + 1 < cLine) (I : Inv X pins σ H s) (g : DGet H a y (some v)) (ry : RelV y u) (h : ∀ w' s', Inv X pins σ H s' → RelV v w' → Q w' s') :
    wpAny (model X.prog X.w) A (getItem (.ref a) u) Q E s := by
  rcases g with ⟨kvs, k, e, ey, l⟩ | ⟨kvs, k, b, e, ey, eb, l⟩
  · subst ey
    obtain ⟨z, hd, vs, rel, dd⟩ := dk_rd I.hok e
    obtain ⟨w', hw, rw'⟩ := RelO.some_of (v := v) (o := valueAt vs k) (by rw [l]; exact rel.val k)
    exact wpAny_getItem_of (kV_is ry) dd.mapOf hw (h w' _ (I.tok _) rw')
  · subst ey
    cases (show u = Value.ref b from ry)
    obtain ⟨z, hd, xs, rel, dd⟩ := dt_rd I.hok e
    obtain ⟨w', hw, rw'⟩ := RelO.some_of (v := v) (o := (atKey xs k).map (·.2)) (by rw [l]; exact rel.val k)
    obtain ⟨p, hp, hp2⟩ := Option.map_eq_some_iff.mp hw
    refine wpAny_getItem_heap (tupleKind_room_in1 hu) (key_of I.hok eb) dd hp ?_
    rw [hp2]
    exact h w' _ (I.tok _) rw'
theorem d_in {Q : Value → Shared → Prop} (hu : A.units + 1 < cLine) (I : Inv X pins σ H s) (g : DGet H a y o) (ry : RelV y u) (h : ∀ s', Inv X pins σ H s' → Q (.bool o.isSome) s') :
    wpAny (model X.prog X.w) A (compareOp .In u (.ref a)) Q E s := by
  rcases g with ⟨kvs, k, e, ey, l⟩ | ⟨kvs, k, b, e, ey, eb, l⟩
  · subst ey
    obtain ⟨z, hd, vs, rel, dd⟩ := dk_rd I.hok e
    refine wpAny_in_of (kV_is ry) hd dd.mapOf ?_
    rw [← (rel.val k).isSome_eq, ← l]
    exact h _ (I.tok _)
  · subst ey
    cases (show u = Value.ref b from ry)
    obtain ⟨z, hd, xs, rel, dd⟩ := dt_rd I.hok e
    refine wpAny_in_heap (tupleKind_room_in1 hu) (key_of I.hok eb) hd dd ?_
    have q := (rel.val k).isSome_eq
    rw [Option.isSome_map] at q
    rw [← q, ← l]
    exact h _ (I.tok _)
theorem d_notIn {Q : Value → Shared → Prop} (hu : A.units + 1 < cLine) (I : Inv X pins σ H s) (g : DGet H a y o) (ry : RelV y u) (h : ∀ s', Inv X pins σ H s' → Q (.bool (!o.isSome)) s') :
    wpAny (model X.prog X.w) A (compareOp .NotIn u (.ref a)) Q E s := by
  rcases g with ⟨kvs, k, e, ey, l⟩ | ⟨kvs, k, b, e, ey, eb, l⟩
  · subst ey
    obtain ⟨z, hd, vs, rel, dd⟩ := dk_rd I.hok e
    refine wpAny_notIn_of (kV_is ry) hd dd.mapOf ?_
    rw [← (rel.val k).isSome_eq, ← l]
    exact h _ (I.tok _)
  · subst ey
    cases (show u = Value.ref b from ry)
    obtain ⟨z, hd, xs, rel, dd⟩ := dt_rd I.hok e
    refine wpAny_notIn_heap (tupleKind_room_in1 hu) (key_of I.hok eb) hd dd ?_
    have q := (rel.val k).isSome_eq
    rw [Option.isSome_map] at q
    rw [← q, ← l]
    exact h _ (I.tok _)
theorem d_write {h' : Heap} {t' : Nat} {ob : HO} (I : Inv X pins σ H s) (mu : Mut (H a)) (hs : Heap.SameBut a s.heap h') (he : ∃ q, h'.get? a = some q) (new : ObjOk X.prog X.w (upd H a ob) h' a ob) :
    Inv X pins σ (upd H a ob) { s with heap := h', toks := t' } :=
  I.write (x := a) (e := a) mu (.inl rfl) (fun b q hb z => (hs.2 b hb).trans z) he new
theorem dk_new {P : Program} {w : World} {H' : Hp} {h' : Heap} {kvs : List (Key × V)} {vs : List (Key × Value)} (z : kvs.length ≤ sizeLine) (hd : (a == sysModules) = false) (rel : KV kvs vs) (dd : h'.DictOf (mixKind P w) a vs) :
    ObjOk P w H' h' a (.dK kvs) := ⟨z, hd, vs, rel, dd⟩
theorem d_setItem {H' : Hp} {Q : Unit → Shared → Prop} (hu : A.units + 1 < cLine) (I : Inv X pins σ H s) (g : DPut H a y v H') (ry : RelV y u) (rv : RelV v r) (h : ∀ s', Inv X pins σ H' s' → Q () s') :
    wpAny (model X.prog X.w) A (setItem (.ref a) u r) Q E s := by
  rcases g with ⟨kvs, k, e, ey, l, eH⟩ | ⟨kvs, k, b, e, ey, eb, l, eH⟩
  · subst ey eH
    obtain ⟨z, hd, vs, rel, dd⟩ := dk_of I.hok e
    have hz : vs.length ≤ sizeLine := by rw [← rel.length]; exact z
    have hl : (putK kvs k v).length ≤ sizeLine := by have := length_putK kvs k v; omega
    refine wpAny_setItem_pairs (hsz := hz) (kV_is ry) dd fun h' dd' hs => h _ ?_
    have he : ∃ q, h'.get? a = some q := let ⟨q, _, _, hq, _⟩ := dd'; ⟨q, hq⟩
    exact d_write I (by rw [e]; exact True.intro) hs he (dk_new hl hd (rel.put k rv) dd')
  · subst ey eH
    cases (show u = Value.ref b from ry)
    obtain ⟨z, hd, xs, rel, dd⟩ := dt_of I.hok e
    have hz : xs.length ≤ sizeLine := by rw [← Paired.length rel]; exact z
    have hl : (putK kvs k v).length ≤ sizeLine := by have := length_putK kvs k v; omega
    refine wpAny_setItem_heap (hsz := hz) (tupleKind_room_in1 hu) (key_of I.hok eb) dd fun h' dd' hs => h _ ?_
    obtain ⟨q, es, ep, hq, h2, h3, h4, _, h5⟩ := dd'
    refine d_write I (by rw [e]; exact True.intro) hs ⟨q, hq⟩ ⟨hl, hd, _, (rel.put k eb rv).keeps fun c ys ec => ?_, q, es, ep, hq, h2, h3, h4, h5⟩
    rw [upd_ne (ne_of ec e (fun z => nomatch z))]
    exact ec
end
section
variable {X : Cx} {pins : List (Addr × Obj)} {σ : St} {H : Hp} {s : Shared} {a : Addr} {kvs : List (Key × V)} {k : Key} {u : Value} {A : Around} {E : Value → Shared → Prop}
end
noncomputable def NoSl (i : Expr) : Prop := ∀ ov iv, subscripted i false ov iv = operate [ov, iv] (getItem ov iv)
theorem subD_of {prog : Program} {w : World} {A : Around} {E : Value → Shared → Prop} {s : Shared} {env : Env} {value slice : Expr} {pos : Pos} {T id : String} {Q : Value → Shared → Prop}
    (hl : typeLookup (.type T) "__getitem__" = pure (some (.builtin id))) (hs : NoSl slice)
    (h : wpAny (model prog w) A (eval value env) (fun o s₁ => wpAny (model prog w) A (eval slice env) (fun i s₂ => s₂.TypeIs o T ∧ wpAny (model prog w) A (getItem o i) Q E s₂) E s₁) E s) :
    wpAny (model prog w) A (eval (.Subscript value slice pos) env) Q E s := by
  refine Subscript_ (wpAny_mono h (fun o s₁ h₁ => wpAny_mono h₁ (fun i s₂ h₂ => ?_) fun _ _ x => x) fun _ _ x => x)
  obtain ⟨hT, h₂⟩ := h₂
  unfold subscriptTail
  refine wpAny_bind ?_
  rw [getitemInPython_of_ne hT.not_modules]
  refine wpAny_bind (wpAny_specialOf hT hl ?_)
  have fin : wpAny (model prog w) A (subscripted slice false o i) (fun r s₃ => wpAny (model prog w) A (letTemporaryGo value o r >>= fun _ => pure r) Q E s₃) E s₂ := by
    rw [hs o i]
    exact wpAny_operating (wpAny_mono h₂ (fun r s₃ h₃ => wpAny_bind (wpAny_letTemporaryGo (wpAny_pure h₃))) fun _ _ x => x)
  first
    | exact wpAny_pure (wpAny_bind fin)
    | exact wpAny_bind (wpAny_pure (wpAny_bind fin))
    | exact wpAny_bind fin
theorem dict_typeIs {X : Cx} {pins : List (Addr × Obj)} {σ : St} {H : Hp} {s : Shared} {a : Addr} {y : V} {o : Option V} (I : Inv X pins σ H s) (g : DGet H a y o) : s.TypeIs (.ref a) "dict" := by
  rcases g with ⟨kvs, k, e, _, _⟩ | ⟨kvs, k, b, e, _, _, _⟩
  · obtain ⟨_, _, vs, _, dd⟩ := dk_rd I.hok e
    exact dd.typeIs
  · obtain ⟨_, _, xs, _, dd⟩ := dt_rd I.hok e
    exact dd.typeIs
noncomputable def tDGet (td ty : TE) : TE := fun σ H Q => td σ H fun x H1 => ty σ H1 fun y H2 => ∃ a v, x = .ref a ∧ DGet H2 a y (some v) ∧ Q v H2
noncomputable def tDIn (ty td : TE) : TE := fun σ H Q => ty σ H fun y H1 => td σ H1 fun x H2 => ∃ a o, x = .ref a ∧ DGet H2 a y o ∧ Q (.bl o.isSome) H2
noncomputable def tDNotIn (ty td : TE) : TE := fun σ H Q => ty σ H fun y H1 => td σ H1 fun x H2 => ∃ a o, x = .ref a ∧ DGet H2 a y o ∧ Q (.bl (!o.isSome)) H2
noncomputable def sDPut (td ty tv : TE) : TS := fun D σ H => tv σ H fun v H1 => td σ H1 fun x H2 => ty σ H2 fun y H3 => ∃ a H4, x = .ref a ∧ DPut H3 a y v H4 ∧ D.nx σ H4
section
variable {X : Cx} {o i e value : Expr} {pos pos' tpos : Pos} {td ty tv : TE}
theorem pe_dget (hu : X.A.units + 1 < cLine) (ho : PE X o td) (hi : PE X i ty) (hs : NoSl i) : PE X (.Subscript o i pos) (tDGet td ty) := by
  intro pins s σ H Q I h
  refine subD_of PySem.F.slot_dict_getitem.lookup hs (thn (ho pins s σ H _ I h) fun u s1 ⟨x, H1, I1, rx, q1⟩ => thn (hi pins s1 σ H1 _ I1 q1) fun iv s2 ⟨y, H2, I2, ry, a, v, ex, g, q2⟩ => ?_)
  subst ex
  obtain rfl : u = Value.ref a := rx
  exact ⟨dict_typeIs I2 g, d_getItem hu I2 g ry fun w' s3 I3 rw' => ⟨v, H2, I3, rw', q2⟩⟩
theorem pc_din (hu : X.A.units + 1 < cLine) (hi : PE X i ty) (ho : PE X o td) : PC X .In i o (tDIn ty td) := by
  intro pins s σ H Q I h
  refine thn (hi pins s σ H _ I h) fun iv s1 ⟨y, H1, I1, ry, q1⟩ => thn (ho pins s1 σ H1 _ I1 q1) fun u s2 ⟨x, H2, I2, rx, a, ov, ex, g, q2⟩ => ?_
  subst ex
  obtain rfl : u = Value.ref a := rx
  exact d_in hu I2 g ry fun s3 I3 => ⟨.bl ov.isSome, H2, I3, rfl, q2⟩
theorem pc_dnotin (hu : X.A.units + 1 < cLine) (hi : PE X i ty) (ho : PE X o td) : PC X .NotIn i o (tDNotIn ty td) := by
  intro pins s σ H Q I h
  refine thn (hi pins s σ H _ I h) fun iv s1 ⟨y, H1, I1, ry, q1⟩ => thn (ho pins s1 σ H1 _ I1 q1) fun u s2 ⟨x, H2, I2, rx, a, ov, ex, g, q2⟩ => ?_
  subst ex
  obtain rfl : u = Value.ref a := rx
  exact d_notIn hu I2 g ry fun s3 I3 => ⟨.bl (!ov.isSome), H2, I3, rfl, q2⟩
theorem ps_dput (hu : X.A.units + 1 < cLine) (ho : PE X o td) (hi : PE X i ty) (hv : PE X value tv) (hs : swapsWith value (some (.Subscript o i pos')) pos.line X.env = pure false) :
    PS X (.Assign [.Subscript o i pos'] value pos) (sDPut td ty tv) := by
  intro pins s σ H D I h
  refine wpAny_Assign_Subscript (thn (hv pins s σ H _ I h) fun r s1 ⟨v, H1, I1, rv, q1⟩ => thn (ho pins s1 σ H1 _ I1 q1) fun u s2 ⟨x, H2, I2, rx, q2⟩ => thn (hi pins s2 σ H2 _ I2 q2) fun iv s3 ⟨y, H3, I3, ry, a, H4, ex, g, q3⟩ => ?_) hs
  subst ex
  obtain rfl : u = Value.ref a := rx
  exact d_setItem hu I3 g ry rv fun s4 I4 => ⟨σ, H4, I4, q3⟩
end
theorem dk_empty {P : Program} {w : World} {H : Hp} (h : Heap) (hb : sysModules < h.objs.size) : ObjOk P w H (h.push { cls := .type "dict", data := .dict #[] }) h.objs.size (.dK []) :=
  ⟨Nat.zero_le _, beq_eq_false_iff_ne.mpr (Ne.symm (Nat.ne_of_lt hb)), [], .nil, Heap.DictOf.new h⟩
noncomputable def tDNewK : TE := fun _ H Q => ∀ p, H p = none → Q (.ref p) (upd H p (.dK []))
section
variable {X : Cx} {pos : Pos}
theorem pe_dnewK : PE X (.Dict [] [] pos) tDNewK := fun pins s σ H Q I h =>
  wpAny_Dict_empty ⟨.ref s.heap.objs.size, _, I.laid (a := s.heap.objs.size) (o := .dK []) (t' := s.toks) (fun _ _ q => Heap.get?_push_of_some _ q) (Nat.le_refl _) (dk_empty s.heap I.big), rfl, h _ (I.hok.fresh (Nat.le_refl _))⟩
end
noncomputable abbrev VV : List (V × V) → List (Value × Value) → Prop := Paired fun p q => RelV p.1 q.1 ∧ RelV p.2 q.2
structure M2 (X : Cx) (o : Expr) (m : Str) (apos : Pos) (e f : Expr) (cpos : Pos) : Prop where
  base : attributeBase o m X.env (eval o X.env) = eval o X.env
  few : ((backTo cpos (starEach [e, f] X.env)).all (fun x => !x.1) && (backToKw cpos (keywordEach [] X.env)).all (fun x => x.1.isSome)
    && decide (([e, f] : List Expr).length + ([] : List Keyword).length + (if ([] : List Keyword).isEmpty then 0 else 1) < 30)) = true
  line : (apos.endLine == cpos.line) = true
  trees : backTo cpos (starEach [e, f] X.env) = [(false, eval e X.env), (false, eval f X.env)]
noncomputable def IsD (H : Hp) (a : Addr) : Prop := (∃ kvs, Rd H a (.dK kvs)) ∨ ∃ kvs, Rd H a (.dT kvs)
theorem isD_at {X : Cx} {pins : List (Addr × Obj)} {σ : St} {H : Hp} {s : Shared} {a : Addr} (I : Inv X pins σ H s) (d : IsD H a) :
    s.TypeIs (.ref a) "dict" ∧ (∀ b, Value.ref a = .ref b → ∃ ob, s.heap.get? b = some ob ∧ ob.dict = none) ∧ (a == sysModules) = false := by
  rcases d with ⟨kvs, e⟩ | ⟨kvs, e⟩
  · obtain ⟨_, hd, vs, _, dd⟩ := dk_rd I.hok e
    refine ⟨dd.typeIs, fun b q => ?_, hd⟩
    cases q
    obtain ⟨ob, _, _, h1, h2, _⟩ := dd
    exact ⟨ob, h1, h2.2.1⟩
  · obtain ⟨_, hd, xs, _, dd⟩ := dt_rd I.hok e
    refine ⟨dd.typeIs, fun b q => ?_, hd⟩
    cases q
    obtain ⟨ob, _, _, h1, h2, _⟩ := dd
    exact ⟨ob, h1, h2.2.1⟩
section
variable {X : Cx} {pins : List (Addr × Obj)} {σ : St} {H : Hp} {s : Shared} {a : Addr} {y d : V} {u r : Value} {o : Option V} {A : Around} {E : Value → Shared → Prop}
theorem d_get2 {Q : Value → Shared → Prop} (hu : A.units + 1 < cLine) (I : Inv X pins σ H s) (g : DGet H a y o) (ry : RelV y u) (rd : RelV d r) (h : ∀ w' s', Inv X pins σ H s' → RelV (o.getD d) w' → Q w' s') :
    wpAny (model X.prog X.w) A (call (.builtin "dict.get") [.ref a, u, r]) Q E s := by
  rcases g with ⟨kvs, k, e, ey, l⟩ | ⟨kvs, k, b, e, ey, eb, l⟩
  · subst ey
    obtain ⟨z, hd, vs, rel, dd⟩ := dk_rd I.hok e
    refine call_meetsIn PySem.F.slot_dict_get dd.typeIs PySem.F.entry_dict_get (PySem.F.args_dict_get_3 _ _ _) (meets_dict_get_default (mixKind X.prog X.w) a (kV_is ry) hd r) ⟨_, dd.mapOf, h _ _ (I.tok _) ?_⟩
    rw [l]
    exact (rel.val k).getD rd
  · subst ey
    cases (show u = Value.ref b from ry)
    obtain ⟨z, hd, xs, rel, dd⟩ := dt_rd I.hok e
    refine call_meetsIn PySem.F.slot_dict_get dd.typeIs PySem.F.entry_dict_get (PySem.F.args_dict_get_3 _ _ _) (meetsH_dict_get_default (tupleKind (mixKind X.prog X.w)) a b hd r) ⟨tupleKind_room_in1 hu, k, xs, key_of I.hok eb, dd, h _ _ (I.tok _) ?_⟩
    rw [l]
    exact (rel.val k).getD rd
end
noncomputable def tDGet2 (td ty tx : TE) : TE := fun σ H Q => td σ H fun x H1 => ∃ a, x = .ref a ∧ IsD H1 a ∧ ty σ H1 fun y H2 => tx σ H2 fun z H3 => ∃ o, DGet H3 a y o ∧ Q (o.getD z) H3
section
variable {X : Cx} {o e f : Expr} {apos cpos : Pos} {td ty tx : TE}
theorem pe_dget2 (hu : X.A.units + 1 < cLine) (ho : PE X o td) (he : PE X e ty) (hf : PE X f tx) (m : M2 X o "get" apos e f cpos) : PE X (.Call (.Attribute o "get" apos) [e, f] [] cpos) (tDGet2 td ty tx) := by
  intro pins s σ H Q I h
  refine wpAny_Call_method m.base m.few m.line PySem.F.plainAttrs_dict PySem.F.slot_dict_get PySem.F.type_dict_get (thn (ho pins s σ H _ I h) fun u s1 ⟨x, H1, I1, rx, a, ex, d, q1⟩ => ?_)
  subst ex
  obtain rfl : u = Value.ref a := rx
  obtain ⟨t1, t2, _⟩ := isD_at I1 d
  refine ⟨t1, t2, ?_⟩
  rw [m.trees]
  refine Calls.callWith_builtin rfl (Calls.evalArgs_plain (Calls.spliced_cons (thn (he pins s1 σ H1 _ I1 q1) fun iv s2 ⟨y, H2, I2, ry, q2⟩ =>
    Calls.spliced_cons (thn (hf pins s2 σ H2 _ I2 q2) fun fv s3 ⟨z, H3, I3, rz, ov, g, q3⟩ => Calls.spliced_nil ?_))))
  exact d_get2 hu I3 g ry rz fun w' s4 I4 rw' => ⟨_, H3, I4, rw', q3⟩
end
section
variable {X : Cx} {pins : List (Addr × Obj)} {σ : St} {H : Hp} {s : Shared} {a : Addr} {kvs : List (Key × V)} {A : Around} {E : Value → Shared → Prop}
end
section
variable {X : Cx} {pins : List (Addr × Obj)} {σ : St} {H : Hp} {s : Shared} {a : Addr} {y : V} {u : Value} {A : Around} {E : Value → Shared → Prop}
end
end L2
namespace L2
open PySem PySem.Spec PyProof.Rows
section
variable {X : Cx}
end
section
variable {κ : Type} [DecidableEq κ]
end
end L2
set_option Elab.async false
set_option linter.all false
set_option maxRecDepth 100000
set_option maxHeartbeats 16000000
namespace L2
open PySem PySem.Spec PyProof.Rows
theorem keys_miss {prog : Program} {w : World} {A : Around} {E : Value → Shared → Prop} {s : Shared} {a : Addr} {items : Array Value} {Q : Option Value → Shared → Prop} (hL : s.heap.IsTuple a items) (hn : ∀ o, s.heap.get? a = some o → o.dict = none) (hA : A.handled = none)
    (h : ∀ h' tk, (∀ b ob, s.heap.get? b = some ob → h'.get? b = some ob) → Q none { s with heap := h', toks := tk }) : wpAny (model prog w) A (getAttr? (.ref a) "keys") Q E s := by
  obtain ⟨⟨c, dct, dat, sl⟩, hx, hc, k, hd⟩ := hL
  have hdn := hn _ hx
  simp only at hc hd hdn
  subst hc hd hdn
  obtain ⟨hp, g, d, tk, os⟩ := s
  have hT : ∀ tk', (⟨hp, g, d, tk', os⟩ : Shared).TypeIs (.ref a) "tuple" := fun _ => ⟨_, hx, rfl⟩
  have f1 := sub_AttributeError
  have f3 := F.slot_tuple_getattribute.lookup
  have f4 := F.slot_tuple_getattribute.bind (.ref a)
  have f5 := am_tuple_getattr_none
  have hmiss : typeLookup (.type "tuple") "keys" = pure none := am_miss_of_fast (by decide +kernel)
  unfold getAttr? getAttrBy? getAttrBy
  repeat (any_goals (first | assumption | exact hT _ | ((with_reducible show wpAny _ _ (call (Value.builtin "tuple.__getattribute__") _ _) _ _ _); refine call_meets F.slot_tuple_getattribute (hT _) am_entry_tuple_getattribute (F.args_tuple_getattribute_2 _ _) (meets_getattribute_miss_tuple a items k sl "keys" _ hmiss (by decide +kernel) (by decide +kernel)) ⟨hx, hA, fun h' tk' e hx' => ?_⟩) | wp_step))
  obtain ⟨t', u', he⟩ := hx'.there
  show wpAny _ _ (getattributeRaised _ _ _ _ _ _ _) _ _ _
  unfold getattributeRaised
  repeat (any_goals (first | assumption | wp_step))
  exact h _ _ hx'.keeps
theorem entry_dul : entryFor table "dict.update.loop" = some Builtin.«dict.update.loop» := entryFor_of_fast (by kernel_rfl)
theorem plain_dul : plainId "dict.update.loop" = true := by decide +kernel
section
variable {X : Cx}
noncomputable def foldP (ps : List (Str × V)) (m : List (Key × V)) : List (Key × V) := ps.foldl (fun m p => putK m (Sum.inr p.1) p.2) m
theorem dict_loop (hc : X.calm = true) {A : Around} (hA : A.handled = none) {pins : List (Addr × Obj)} {σ : St} {H0 : Hp} {Q : VK} {a d it : Addr} {vs : List V} (hda : d ≠ a) (hit : it ≠ a) (hdi : d ≠ it) :
    ∀ (n i : Nat) (s : Shared) (m : List (Key × V)) (ps : List (Str × V)) (j : Int) (tk : Tok), n = vs.length - i → Inv X pins σ (upd H0 d (.dK m)) s → s.heap.IsTupleIter it a i → FpOk X pins (upd H0 d (.dK m)) it → SqT X.K (upd H0 d (.dK m)) a vs →
      Paired (fun v (p : Str × V) => ∃ t, v = .ref t ∧ t ≠ d ∧ SqT X.K H0 t [.str p.1, p.2]) (vs.drop i) ps → m.length + ps.length ≤ 1000 → H0 it = none →
      Q (.ref d) (upd H0 d (.dK (foldP ps m))) → codeAny (model X.prog X.w) A (.builtin "dict.update.loop" ⟨[.ref d, .ref it, .int j tk, .none], []⟩) (wants (fun u s' => u = .none ∧ ∃ H', Inv X pins σ H' s' ∧ Q (.ref d) H') (fun _ _ => False)) s := by
  intro n
  induction n with
  | zero =>
    intro i s m ps j tk hn I st fp hsq hp hlen hn0 q
    have hd : vs.drop i = [] := List.drop_eq_nil_of_le (by omega)
    rw [hd] at hp
    cases hp
    obtain ⟨its, rv, pt, hz⟩ := I.tuple hsq
    have hl := rv.length
    obtain ⟨f0, f1, f2, f3, f4, f5⟩ := fp
    refine codeAny_builtin entry_dul ?_
    rw [Around.under_plainId plain_dul _]
    show wpAny _ A.in1 (pyNext (.ref it) >>= _) _ _ s
    refine wpAny_bind (wpAny_pyNext_tuple_end (A := A.in1) hA st (show s.heap.IsTuple a its.toArray from pt) (by simp; omega) fun h' eb => ?_)
    have I' : Inv X pins σ (upd H0 d (.dK m)) { s with heap := h' } := I.turned (t' := s.toks) (fun b o hb e => eb b o hb e) f0 f1 f3 f4 f5
    show wpAny _ _ (Builtin.Dict.addKeywords d [] >>= _) _ _ _
    exact wpAny_bind (wpAny_pure (wpAny_pure ⟨rfl, _, I', q⟩))
  | succ n ih =>
    intro i s m ps j tk hn I st fp hsq hp hlen hn0 q
    have hi : i < vs.length := by omega
    have hdr : vs.drop i = vs[i] :: vs.drop (i + 1) := List.drop_eq_getElem_cons hi
    rw [hdr] at hp
    cases hp with
    | @cons _ p _ ps' h1 hrest =>
    obtain ⟨t, e, htd, ht⟩ := h1
    obtain ⟨its, rv, pt, hz⟩ := I.tuple hsq
    have hl := rv.length
    have hx : vs[i]? = some (V.ref t) := by simp [hi, e]
    obtain ⟨u, hu, ru⟩ := rv.get hx
    cases ru
    obtain ⟨f0, f1, f2, f3, f4, f5⟩ := id fp
    refine codeAny_builtin entry_dul ?_
    rw [Around.under_plainId plain_dul _]
    show wpAny _ A.in1 (pyNext (.ref it) >>= _) _ _ s
    refine wpAny_bind (wpAny_pyNext_tuple_item (A := A.in1) st (show s.heap.IsTuple a its.toArray from pt) (x := .ref t) (by simpa using hu) fun h' st' sb => ?_)
    have I' : Inv X pins σ (upd H0 d (.dK m)) { s with heap := h' } := I.turned (t' := s.toks) (fun b o hb e => (sb.2 b hb).trans e) f0 f1 f3 f4 f5
    have ht' : SqT X.K (upd H0 d (.dK m)) t [.str p.1, p.2] := by
      rcases ht with (ht | ⟨o, ht⟩) | ht
      · exact .inl (.inl (by rw [upd_ne htd]; exact ht))
      · exact .inl (.inr ⟨o, by rw [upd_ne htd]; exact ht⟩)
      · exact .inr ht
    obtain ⟨kv, rkv, ptt, _⟩ := I'.tuple ht'
    cases rkv with
    | @cons _ ku _ _ rk rr =>
    cases rr with
    | @cons _ vu _ _ rvv rr =>
    cases rr
    obtain ⟨tk2, rfl⟩ := rk
    have hTy : (⟨h', s.gens, s.drawn, s.toks, s.os⟩ : Shared).TypeIs (.ref t) "tuple" := by obtain ⟨o, ho, hcl, _⟩ := ptt; exact ⟨o, ho, hcl⟩
    dsimp only
    obtain ⟨ot, hot, hoc, kt, hodat⟩ := ptt
    obtain ⟨z, hsm, ws, rel, dd⟩ := dk_of I'.hok (upd_same (H := H0) (a := d) (o := .dK m))
    have hz2 : ws.length ≤ sizeLine := by rw [← rel.length]; exact z
    refine wpAny_bind (wpAny_holding (wpAny_bind (wpAny_tryCatch ?_)))
    unfold Builtin.Dict.pairItems
    refine wpAny_bind (wpAny_typeOf hTy ?_)
    rw [if_pos (by decide)]
    refine wpAny_bind (wpAny_seqItems hot hodat (wpAny_pure ?_))
    show wpAny _ _ (holding [Value.str p.1 tk2, vu] (dictSet d (Value.str p.1 tk2) vu)) _ _ _
    refine wpAny_holding (wpAny_dictSet_pairs (knd := mixKind X.prog X.w) (k := Sum.inr p.1) (mixKind_str X.prog X.w p.1 tk2) dd (fun h2 dd2 sb2 => ?_) hz2)
    have hl2 : (putK m (Sum.inr p.1) p.2).length ≤ sizeLine := by
      have h3 := length_putK m (Sum.inr p.1) p.2
      have : sizeLine = 16777216 := sizeLine_eq
      simp only [List.length_cons] at hlen
      omega
    have he : ∃ q, h2.get? d = some q := let ⟨q, _, _, hq, _⟩ := dd2; ⟨q, hq⟩
    have I2 : Inv X pins σ (upd (upd H0 d (.dK m)) d (.dK (putK m (Sum.inr p.1) p.2))) { heap := h2, gens := s.gens, drawn := s.drawn, toks := s.toks + 1, os := s.os } :=
      d_write (s := { heap := h', gens := s.gens, drawn := s.drawn, toks := s.toks, os := s.os }) (t' := s.toks + 1) I' (by rw [upd_same]; exact True.intro) sb2 he (dk_new hl2 hsm (rel.put _ rvv) dd2)
    rw [upd_upd] at I2
    refine wpAny_pure ⟨plainId_quiet plain_dul _, ?_⟩
    have hsq2 : SqT X.K (upd H0 d (.dK (putK m (Sum.inr p.1) p.2))) a vs := by
      rcases hsq with (h | ⟨o, h⟩) | h
      · rw [upd_ne hda.symm] at h; exact .inl (.inl (by rw [upd_ne hda.symm]; exact h))
      · rw [upd_ne hda.symm] at h; exact .inl (.inr ⟨o, by rw [upd_ne hda.symm]; exact h⟩)
      · exact .inr h
    refine ih (i + 1) _ (putK m (Sum.inr p.1) p.2) ps' (j + 1) _ (by omega) I2 ?_ ⟨by rw [upd_ne hdi.symm]; exact hn0, f1, f2, f3, f4, f5⟩ hsq2 hrest ?_ hn0 q
    · obtain ⟨oi, hoi, r⟩ := st'
      exact ⟨oi, (sb2.2 it hdi.symm).trans hoi, r⟩
    · have h3 := length_putK m (Sum.inr p.1) p.2
      simp only [List.length_cons] at hlen
      omega
theorem call_dictT (hc : X.calm = true) : CallR X (.type "dict") (fun xs H Q => ∃ (a : Addr) (o : Obj) (vs : List V) (ps : List (Str × V)), xs = [.ref a] ∧ H a = some (.frz o (.tup vs)) ∧ o.dict = none ∧ Paired (fun v (p : Str × V) => ∃ t, v = .ref t ∧ SqT X.K H t [.str p.1, p.2]) vs ps ∧ ps.length ≤ 1000 ∧
    ∀ d, H d = none → Q (.ref d) (upd H d (.dK (foldP ps [])))) := by
  intro pins s σ H xs us Q I r h
  obtain ⟨a, o, vs, ps, rfl, ha, hod, hp, hlen, q⟩ := h
  obtain ⟨u, rfl, ru⟩ := vals1 r
  cases ru
  have hsq : SqT X.K H a vs := .inl (.inr ⟨o, ha⟩)
  obtain ⟨its, rv, pt, hz⟩ := I.tuple hsq
  have hobj : s.heap.get? a = some o := (I.hok a _ ha).1
  have hfr : H s.heap.objs.size = none := I.hok.fresh (Nat.le_refl _)
  refine callType_codes (Q₁ := fun obj s₁ => obj = .ref s.heap.objs.size ∧ s₁ = { s with heap := s.heap.push { cls := .type "dict", data := .dict #[] } }) F.kt_called_dict (F.kt_typeCall_dict_1 _) F.entry_dict_init (kt_code_dict_new _ ⟨rfl, rfl⟩) ?_
  rintro obj s₁ ⟨rfl, rfl⟩
  have I1 : Inv X pins σ (upd H s.heap.objs.size (.dK [])) { s with heap := s.heap.push { cls := .type "dict", data := .dict #[] } } :=
    I.laid (a := s.heap.objs.size) (o := .dK []) (t' := s.toks) (fun _ _ q => Heap.get?_push_of_some _ q) (Nat.le_refl _) (dk_empty s.heap I.big)
  have hnew : (s.heap.push { cls := .type "dict", data := .dict #[] }).DictOf (mixKind X.prog X.w) s.heap.objs.size [] := Heap.DictOf.new s.heap
  refine ⟨hnew.typeIs, F.args_dict_init_2 _ _, ?_⟩
  unfold Builtin.«dict.__init__»
  refine wpAny_bind ?_
  unfold Builtin.Dict.selfAndRest
  refine wpAny_bind (wpAny_notOrdered_dict hnew.typeIs ?_)
  show wpAny _ _ (pure (s.heap.objs.size, [Value.ref a])) _ _ _
  refine wpAny_pure ?_
  show wpAny _ _ (Builtin.Dict.updateFrom "dict.__init__" s.heap.objs.size (.ref a) [] .none) _ _ _
  have had : s.heap.objs.size ≠ a := Ne.symm (ne_of_none ha hfr)
  have hobj1 : (s.heap.push { cls := .type "dict", data := .dict #[] }).get? a = some o := Heap.get?_push_of_some _ hobj
  have htp : (s.heap.push { cls := .type "dict", data := .dict #[] }).IsTuple a its.toArray := by
    obtain ⟨o2, h1, h2⟩ := pt
    exact ⟨o2, Heap.get?_push_of_some _ h1, h2⟩
  unfold Builtin.Dict.updateFrom
  refine wpAny_bind (wpAny_typeOf (s := { s with heap := s.heap.push { cls := .type "dict", data := .dict #[] } }) (T := "tuple") (by obtain ⟨o2, h1, h2, _⟩ := htp; exact ⟨o2, h1, h2⟩) ?_)
  rw [if_pos (by decide)]
  refine wpAny_bind (keys_miss htp (fun o2 h2 => by rw [hobj1] at h2; cases h2; exact hod) (I.ok.hd hc) fun h' tk hk => ?_)
  rw [if_pos (show (none : Option Value).isNone = true from rfl)]
  refine wpAny_bind (wpAny_rule ?_)
  have I2 : Inv X pins σ (upd H s.heap.objs.size (.dK [])) { s with heap := h', toks := tk } := I1.kept hk
  have htp2 : h'.IsTuple a its.toArray := by
    obtain ⟨o2, h1, h2⟩ := htp
    exact ⟨o2, hk _ _ h1, h2⟩
  refine wpAny_bind (wpAny_pyIter_tuple (s := { s with heap := h', toks := tk }) htp2 ?_)
  refine wpAny_pure ⟨plainId_quiet plain_dul _, ?_⟩
  have I3 := I2.kept (h' := h'.push { cls := .type "tuple_iterator", data := .fields #[.ref a, .int 0 0] }) (t' := tk) fun b ob e => Heap.get?_push_of_some _ e
  have hfi : upd H s.heap.objs.size (.dK []) h'.objs.size = none := I2.hok.fresh (Nat.le_refl _)
  have hdi : s.heap.objs.size ≠ h'.objs.size := by
    intro z
    rw [← z, upd_same] at hfi
    cases hfi
  have hfi0 : H h'.objs.size = none := by rw [upd_ne hdi.symm] at hfi; exact hfi
  have hia : h'.objs.size ≠ a := fun z => by
    rw [z, ha] at hfi0
    cases hfi0
  have hsq1 : SqT X.K (upd H s.heap.objs.size (.dK [])) a vs := .inl (.inr ⟨o, by rw [upd_ne had.symm]; exact ha⟩)
  have L := dict_loop (X := X) hc (A := X.A.in1) (I.ok.hd hc) (pins := pins) (σ := σ) (H0 := H) (Q := Q) (a := a) (d := s.heap.objs.size) (it := h'.objs.size) (vs := vs) had hia hdi vs.length 0 _ [] ps 0 0 (by omega) I3 ⟨_, Heap.get?_push_size _ rfl, rfl, rfl⟩ (I2.fpOk (Nat.le_refl _) hfi) hsq1
    (Paired.mapP hp fun v p ⟨t, e, ht⟩ => ⟨t, e, fun z => ?_, ht⟩) (by simpa using hlen) hfi0 (q _ hfr)
  · refine codeAny_mono L fun r s' hr => ?_
    cases r with
    | error e => exact False.elim hr
    | ok f =>
      cases f with
      | ret v =>
        obtain ⟨e, H', I', q'⟩ := hr
        exact ⟨e, .ref s.heap.objs.size, H', I', rfl, q'⟩
      | next => exact False.elim hr
      | brk => exact False.elim hr
      | cont => exact False.elim hr
  · obtain ⟨its2, _, ⟨o2, h2, _⟩, _⟩ := I.tuple ht
    rw [z] at h2
    exact absurd (Heap.lt_size h2) (Nat.lt_irrefl _)
end
end L2
set_option Elab.async false
set_option linter.all false
set_option maxRecDepth 100000
set_option maxHeartbeats 16000000
namespace L2
open PySem PySem.Spec PyProof.Rows PySem.W
section
variable {prog : Program} {w : World} {A : Around} {E : Value → Shared → Prop} {s : Shared} {T : String} {r d : Addr} {n : Nat} {P : Nat → Value → Prop} {OK : Heap → Prop}
end
theorem is_kV {P : Program} {w : World} {k : Key} {u : Value} (h : (mixKind P w).is k u = true) : RelV (kV k) u := by
  rcases keyIs_shape (show keyIs k u = true from h) with ⟨i, t, rfl, rfl⟩ | ⟨x, t, rfl, rfl⟩
  · exact ⟨t, rfl⟩
  · exact ⟨t, rfl⟩
noncomputable def keysV (kvs : List (Key × V)) : List V := kvs.map fun kv => kV kv.1
theorem length_keysV (kvs : List (Key × V)) : (keysV kvs).length = kvs.length := List.length_map _
section
variable {X : Cx}
end
end L2
set_option Elab.async false
set_option linter.all false
set_option maxRecDepth 100000
set_option maxHeartbeats 16000000
namespace L2
open PySem PySem.Spec PyProof.Rows
noncomputable def addN (l : List Str) (x : Str) : List Str := if x ∈ l then l else l ++ [x]
noncomputable def setD (l : List Str) : List (Key × V) := l.map fun x => (Sum.inr x, .bl true)
theorem setD_len (l : List Str) : (setD l).length = l.length := List.length_map _
theorem setD_any (l : List Str) (x : Str) : ((setD l).any fun kv => decide (kv.1 = Sum.inr x)) = decide (x ∈ l) := by
  induction l with
  | nil => simp [setD]
  | cons a r ih =>
    have : setD (a :: r) = (Sum.inr a, .bl true) :: setD r := rfl
    rw [this, List.any_cons, ih]
    by_cases e : a = x
    · subst e; simp
    · have h1 : ¬ (Sum.inr a : Key) = Sum.inr x := fun z => e (Sum.inr.inj z)
      have h2 : ¬ x = a := fun z => e z.symm
      simp [e, h2]
theorem setD_put (l : List Str) (x : Str) : putK (setD l) (Sum.inr x) (.bl true) = setD (addN l x) := by
  unfold putK
  rw [setD_any]
  unfold addN
  by_cases e : x ∈ l
  · rw [if_pos (by simpa using e), if_pos e]
    unfold setD
    rw [List.map_map]
    refine List.map_congr_left fun a _ => ?_
    show (if (Sum.inr a : Key) = Sum.inr x then ((Sum.inr a : Key), V.bl true) else (Sum.inr a, V.bl true)) = _
    split <;> rfl
  · rw [if_neg (by simpa using e), if_neg e]
    unfold setD
    rw [List.map_append]
    rfl
end L2
set_option Elab.async false
set_option linter.all false
set_option maxRecDepth 100000
set_option maxHeartbeats 16000000
namespace L2
open PySem PySem.Spec PyProof.Rows
section
variable {X : Cx}
end
end L2
set_option Elab.async false
set_option linter.all false
set_option maxRecDepth 100000
set_option maxHeartbeats 16000000
namespace L2
open PySem PySem.Spec PyProof.Rows
section
variable {X : Cx}
theorem op_neL_nil (hu : X.A.units < cLine) : OpR X (compareOp .NotEq) (fun x y H Q => ∃ a b xs, x = .ref a ∧ y = .ref b ∧ SqL X.K H a xs ∧ SqL X.K H b [] ∧ Q (.bl (!xs.isEmpty)) H) := by
  intro pins s σ H x y v u Q I rx ry h
  obtain ⟨a, b, xs, rfl, rfl, ha, hb, q⟩ := h
  cases rx
  cases ry
  obtain ⟨its, r1, p1, _⟩ := I.list ha
  obtain ⟨its2, r2, p2, _⟩ := I.list hb
  cases r2
  cases xs with
  | nil =>
    cases r1
    exact SeqAt.RcNeAt.lists (e := fun _ => true) p1.isList p2.isList rfl hu (fun j h1 _ => absurd h1 (by simp)) _ _ _ _ ⟨.bl false, H, I, rfl, q⟩
  | cons c r =>
    have hl1 := r1.length
    exact SeqAt.RcNeAt.lists_lengths p1.isList p2.isList (by rw [bne_iff_ne]; intro z; simp only [List.size_toArray, List.length_nil, List.length_cons] at z hl1; omega) hu _ _ _ _ ⟨.bl true, H, I, rfl, q⟩
end
end L2
set_option Elab.async false
set_option linter.all false
set_option maxRecDepth 100000
set_option maxHeartbeats 16000000
namespace L2
open PySem PySem.Spec PyProof.Rows
section
variable {X : Cx} {elts : List Expr} {k : Nat} {tpos : Pos}
end
end L2
set_option Elab.async false
set_option linter.all false
set_option maxRecDepth 100000
set_option maxHeartbeats 16000000
namespace L2
open PySem PySem.Spec PyProof.Rows
end L2
set_option Elab.async false
set_option linter.all false
set_option maxRecDepth 100000
set_option maxHeartbeats 16000000
namespace L2
open PySem PySem.Spec PyProof.Rows
end L2
set_option Elab.async false
set_option linter.all false
set_option maxRecDepth 100000
set_option maxHeartbeats 16000000
namespace RV
open PySem PySem.Spec PyProof.Rows
end RV
set_option Elab.async false
set_option linter.all false
set_option maxRecDepth 100000
set_option maxHeartbeats 16000000
namespace RV
open PySem PySem.Spec PyProof.Rows
section
variable {prog : Program} {w : World} {A : Around} {E : Value → Shared → Prop} {s : Shared}
end
end RV
set_option Elab.async false
set_option linter.all false
set_option maxRecDepth 100000
set_option maxHeartbeats 16000000
namespace RV
open PySem PySem.Spec PyProof.Rows
section
variable {prog : Program} {w : World} {A : Around} {E : Value → Shared → Prop} {s : Shared}
end
end RV
set_option Elab.async false
set_option linter.all false
set_option maxRecDepth 100000
set_option maxHeartbeats 16000000
namespace RV
open PySem PySem.Spec PyProof.Rows
section
variable {prog : Program} {w : World} {A : Around} {E : Value → Shared → Prop} {s : Shared}
end
end RV
set_option Elab.async false
set_option linter.all false
set_option maxRecDepth 100000
set_option maxHeartbeats 16000000
namespace L2
open PySem PySem.Spec PyProof.Rows PySem.W RV
section
variable {X : Cx} {e : Expr} {te : TE} {pos pos2 p p2 : Pos}
end
end L2
set_option Elab.async false
set_option linter.all false
set_option maxRecDepth 100000
set_option maxHeartbeats 16000000
namespace L2
open PySem PySem.Spec PyProof.Rows
section
variable {P : Program} {w : World} {A : Around} {E : Value → Shared → Prop} {s : Shared} {z TI TO i1 i2 l1 l2 : Addr} {xs ys : Array Value} {I1 I2 : Nat → Heap → Prop} {S1 S2 : Heap → Prop}
end
section
variable {X : Cx} {elts : List Expr} {k : Nat} {tpos : Pos}
end
end L2
set_option Elab.async false
set_option linter.all false
set_option maxRecDepth 100000
set_option maxHeartbeats 16000000
namespace L2
open PySem PySem.Spec PyProof.Rows PySem.W
noncomputable def RawAt (h : Heap) (d : Addr) (es : Array DictEntry) (ep : Nat) : Prop := ∃ o, h.get? d = some o ∧ o.ExactDict ∧ o.data = .dict es ep
section
variable {P : Program} {w : World} {A : Around} {E : Value → Shared → Prop} {s : Shared} {d : Addr} {es : Array DictEntry} {ep : Nat}
theorem RawAt.ty (r : RawAt s.heap d es ep) : s.TypeIs (.ref d) "dict" := by
  obtain ⟨ob, e, c, _⟩ := r
  exact ⟨ob, e, c.1⟩
theorem raw_iter {Q : Value → Shared → Prop} (lo : (d == sysModules) = false) (r : RawAt s.heap d es ep)
    (q : Q (.ref s.heap.objs.size) { s with heap := s.heap.push { cls := .type "dict_keyiterator", data := .fields #[.ref d, .int 0 0, .int es.size 0, .int ep 0] } }) : wpAny (model P w) A (pyIter (.ref d)) Q E s := by
  have ty := r.ty
  obtain ⟨ob, eb, cb, db⟩ := r
  refine wpAny_pyIter_slot ty F.slot_dict_iter (wpAny_call_entry F.slot_dict_iter ty F.entry_dict_iter ?_ (F.args_dict_iter_1 _))
  unfold Builtin.«dict.__iter__» Builtin.Dict.dictSlotNone
  refine wpAny_bind (wpAny_bind (wpAny_notOrdered_dict ty ?_))
  show wpAny _ _ (pure (Value.ref d)) _ _ s
  refine wpAny_pure ?_
  show wpAny _ _ (Builtin.Dict.showsAll d >>= _) _ _ s
  unfold Builtin.Dict.showsAll
  rw [if_neg (fun z => by rw [lo] at z; exact Bool.false_ne_true z)]
  refine wpAny_bind (wpAny_pure (wpAny_bind (wpAny_dictEntries eb db (wpAny_bind (wpAny_dictEpoch eb db ?_)))))
  refine wpAny_bind (wpAny_newObj_type (wpAny_pure ⟨_, rfl, "dict_keyiterator", _, ⟨_, Heap.get?_push_size _ rfl, rfl⟩, F.slot_dict_keyiterator_next.lookup, ?_⟩))
  simpa [rawInt] using q
theorem raw_item {it : Addr} {i : Nat} {e : DictEntry} {Q : Option Value → Shared → Prop} (hi : s.heap.IsKeyIter it d i es.size ep) (r : RawAt s.heap d es ep) (he : es[i]? = some e)
    (q : ∀ h', h'.IsKeyIter it d (i + 1) es.size ep → Heap.SameBut it s.heap h' → Q (some e.key) { s with heap := h' }) : wpAny (model P w) A (pyNext (.ref it)) Q E s := by
  obtain ⟨oi, ei, ci, di⟩ := id hi
  obtain ⟨ob, eb, cb, db⟩ := r
  unfold pyNext
  refine wpAny_bind (wpAny_attempt (wpAny_callSpecial?_slot (name := Str.ofString "__next__") hi.typeIs F.slot_dict_keyiterator_next (wpAny_call_entry F.slot_dict_keyiterator_next hi.typeIs F.entry_dict_keyiterator_next ?_ (F.args_dict_keyiterator_next_1 _))))
  refine wpAny_bind (wpAny_pure (wpAny_bind (wpAny_bind ?_)))
  first | refine wpAny_bind (wpAny_typeNameOfWhole_keyiter hi.typeIs (wpAny_pure (wpAny_bind (wpAny_fieldsOf ei di ?_)))) | refine wpAny_bind (wpAny_typeNameOf_keyiter hi.typeIs (wpAny_pure (wpAny_bind (wpAny_fieldsOf ei di ?_))))
  simp only [show Builtin.Dict_items.ownsTuple "dict_keyiterator" = false by decide, Bool.false_eq_true, if_false]
  show wpAny _ _ (ite ((Value.ref d == Value.none) = true) _ _) _ _ s
  rw [if_neg (by exact Bool.false_ne_true)]
  refine wpAny_bind (wpAny_pure (wpAny_bind (wpAny_dictEntries eb db ?_)))
  rw [if_neg (by simp)]
  refine wpAny_bind (wpAny_pure (wpAny_bind (wpAny_dictEpoch eb db ?_)))
  rw [if_neg (by simp)]
  refine wpAny_pure ?_
  simp only [show ¬ ((i : Int) < 0) from by omega, if_false, Int.toNat_natCast, he]
  refine wpAny_bind ?_
  first | refine wpAny_bind (wpAny_typeNameOfWhole_keyiter hi.typeIs (wpAny_pure (wpAny_bind (wpAny_isOneOf_keyiter hi.typeIs ?_)))) | refine wpAny_bind (wpAny_typeNameOf_keyiter hi.typeIs (wpAny_pure (wpAny_bind (wpAny_isOneOf_keyiter hi.typeIs ?_))))
  show wpAny _ _ (setField (Value.ref it) 1 (rawInt ((i : Int) + 1)) >>= _) _ _ s
  refine wpAny_bind (wpAny_setField ei di (by simp) ?_)
  have hi2 : (s.heap.update it (Obj.mapFields (·.setIfInBounds 1 (rawInt ((i : Int) + 1))))).IsKeyIter it d (i + 1) es.size ep := ⟨_, Heap.get?_update_self _ ei (Obj.isFreed_of_fields (Obj.data_mapFields di _)), (Obj.cls_mapFields ..).trans ci, by
    rw [Obj.data_mapFields di]
    simp [rawInt]⟩
  refine wpAny_bind (wpAny_holding (wpAny_bind (wpAny_isOneOf_keyiter (s := { s with heap := s.heap.update it (Obj.mapFields (·.setIfInBounds 1 (rawInt ((i : Int) + 1)))) }) hi2.typeIs ?_)))
  show wpAny _ _ (pure e.key) _ _ _
  exact wpAny_pure (wpAny_pure ⟨_, rfl, wpAny_pure (q _ hi2 (Heap.SameBut.update ..))⟩)
theorem raw_stop {it : Addr} {i : Nat} {Q : Option Value → Shared → Prop} (hA : A.handled = none) (hi : s.heap.IsKeyIter it d i es.size ep) (r : RawAt s.heap d es ep) (he : es[i]? = none)
    (q : ∀ h', Heap.ExtBut it s.heap h' → Q none { s with heap := h' }) : wpAny (model P w) A (pyNext (.ref it)) Q E s := by
  obtain ⟨oi, ei, ci, di⟩ := id hi
  obtain ⟨ob, eb, cb, db⟩ := r
  unfold pyNext
  refine wpAny_bind (wpAny_attempt (wpAny_callSpecial?_slot (name := Str.ofString "__next__") hi.typeIs F.slot_dict_keyiterator_next (wpAny_call_entry F.slot_dict_keyiterator_next hi.typeIs F.entry_dict_keyiterator_next ?_ (F.args_dict_keyiterator_next_1 _))))
  refine wpAny_bind (wpAny_pure (wpAny_bind (wpAny_bind ?_)))
  first | refine wpAny_bind (wpAny_typeNameOfWhole_keyiter hi.typeIs (wpAny_pure (wpAny_bind (wpAny_fieldsOf ei di ?_)))) | refine wpAny_bind (wpAny_typeNameOf_keyiter hi.typeIs (wpAny_pure (wpAny_bind (wpAny_fieldsOf ei di ?_))))
  simp only [show Builtin.Dict_items.ownsTuple "dict_keyiterator" = false by decide, Bool.false_eq_true, if_false]
  show wpAny _ _ (ite ((Value.ref d == Value.none) = true) _ _) _ _ s
  rw [if_neg (by exact Bool.false_ne_true)]
  refine wpAny_bind (wpAny_pure (wpAny_bind (wpAny_dictEntries eb db ?_)))
  rw [if_neg (by simp)]
  refine wpAny_bind (wpAny_pure (wpAny_bind (wpAny_dictEpoch eb db ?_)))
  rw [if_neg (by simp)]
  refine wpAny_pure ?_
  simp only [show ¬ ((i : Int) < 0) from by omega, if_false, Int.toNat_natCast, he]
  refine wpAny_bind ?_
  first | refine wpAny_bind (wpAny_typeNameOfWhole_keyiter hi.typeIs (wpAny_pure ?_)) | refine wpAny_bind (wpAny_typeNameOf_keyiter hi.typeIs (wpAny_pure ?_))
  show wpAny _ _ (setField (Value.ref it) 0 .none >>= _) _ _ s
  refine wpAny_bind (wpAny_setField ei di (by simp) ?_)
  show wpAny _ _ (newExc (Value.type "StopIteration") [] >>= _) _ _ _
  refine wpAny_bind ?_
  simp only [newTuple, newExc]
  refine wpAny_bind (wpAny_newObj_type (wpAny_bind (m := firstArgMember _ _) (wpAny_of_eq (a := Value.none) (by first | rfl | (simp only [firstArgMember]; rfl)) (wpAny_newObj_type ?_ (by size_fits)))) (by size_fits))
  simp only [raiseNew]
  refine wpAny_bind (wpAny_handled ?_)
  rw [show A.in1.handled = none from hA]
  refine wpAny_bind (wpAny_pure (wpAny_throw ?_))
  exact wpAny_bind (wpAny_isInstance (T := "StopIteration") (b := true) ⟨_, Heap.get?_push_size _ rfl, rfl⟩ isSubtype_stop (wpAny_pure (q _ (((Heap.SameBut.update ..).extBut.push _).push _))))
end
section
variable {X : Cx}
end
end L2
set_option Elab.async false
set_option linter.all false
set_option maxRecDepth 100000
set_option maxHeartbeats 16000000
namespace L2
open PySem PySem.Spec PyProof.Rows
section
variable {X : Cx}
theorem op_neL_same (hu : X.A.units < cLine) : OpR X (compareOp .NotEq) (fun x y H Q => ∃ a b xs, x = .ref a ∧ y = .ref b ∧ SqL X.K H a xs ∧ SqL X.K H b xs ∧ xs.all flatV = true ∧ Q (.bl false) H) := by
  intro pins s σ H x y v u Q I rx ry h
  obtain ⟨a, b, xs, rfl, rfl, ha, hb, hf, q⟩ := h
  cases rx
  cases ry
  obtain ⟨its, r1, p1, _⟩ := I.list ha
  obtain ⟨its2, r2, p2, _⟩ := I.list hb
  have l1 := r1.length
  have l2 := r2.length
  refine SeqAt.RcNeAt.lists (e := fun _ => true) p1.isList p2.isList (by simp; omega) hu (same_items r1 r2 hf) X.prog X.w _ _ ?_
  rw [show (!((List.range its.toArray.size).all (fun _ => true))) = false by simp]
  exact ⟨.bl false, H, I, rfl, q⟩
end
end L2
set_option Elab.async false
set_option linter.all false
set_option maxRecDepth 100000
set_option maxHeartbeats 16000000
namespace RG
open PySem PySem.Spec PyProof.Rows
section
variable {prog : Program} {w : World} {A : Around} {E : Value → Shared → Prop} {s : Shared}
variable {I : Addr} {fp : List Addr} {n : Nat} {P : Nat → Value → Prop} {St : Nat → Heap → Prop} {T : String}
end
end RG
set_option Elab.async false
set_option linter.all false
set_option maxRecDepth 100000
set_option maxHeartbeats 16000000
namespace RG
open PySem PySem.Spec PyProof.Rows
section
variable {prog : Program} {w : World} {A : Around} {E : Value → Shared → Prop} {s : Shared}
end
end RG
namespace L2
open PySem PySem.Spec PyProof.Rows PySem.W RG
section
variable {X : Cx} {e : Expr} {te : TE} {pos pos2 pos3 p p2 p3 : Pos}
end
end L2
set_option Elab.async false
set_option linter.all false
set_option maxRecDepth 100000
set_option maxHeartbeats 16000000
namespace L2
open PySem PySem.Spec PyProof.Rows PySem.W
section
variable {X : Cx} {pins : List (Addr × Obj)} {σ : List (Option V)} {H : Hp} {s : Shared}
theorem Inv.freeze {d : Addr} {o : Obj} {u : HO} (I : Inv X pins σ H s) (h : H d = some u) (n1 : ∀ xs, u ≠ .tup xs) (n2 : ∀ o' u', u ≠ .frz o' u') (n3 : ∀ ps, u ≠ .tbl ps) (n4 : ∀ a, u ≠ .own a) (ho : s.heap.get? d = some o) : Inv X pins σ (upd H d (.frz o u)) s := by
  have ne : ∀ {b : Addr} {v : HO}, H b = some v → v ≠ u → b ≠ d := fun {b v} e hv z => by
    rw [z, h] at e
    exact hv (Option.some.inj e).symm
  have kt : ∀ (b : Addr) (xs : List V), H b = some (.tup xs) → upd H d (.frz o u) b = some (.tup xs) := fun b xs e => by
    rw [upd_ne (ne e fun z => n1 xs z.symm)]
    exact e
  have ko : ∀ (a b : Addr), H b = some (.own a) → upd H d (.frz o u) b = some (.own a) := fun a b e => by
    rw [upd_ne (ne e fun z => n4 a z.symm)]
    exact e
  refine I.step (h' := s.heap) (g' := s.gens) (d' := s.drawn) (t' := s.toks) (ch := []) (fun _ z => nomatch z) (fun b ob _ _ _ e _ => e) (fun b ob _ _ _ e _ => ⟨ob.slots, e⟩)
    (fun b ob _ _ n => by rw [upd_ne (fun z => by rw [z, h] at n; cases n)]; exact n) (fun b ob _ e => ⟨ob, e⟩) kt
    (fun b ob v e => by rw [upd_ne (ne e fun z => n2 ob v z.symm)]; exact e) (fun b ps e => ⟨#[], by rw [upd_ne (ne e fun z => n3 ps z.symm), e]; simp⟩) (fun m hm => hm) (fun b v e => ?_) I.bare
  by_cases hb : b = d
  · subst hb
    rw [upd_same] at e
    cases e
    exact ⟨ho, (I.hok b u h).stay (fun c w _ q => q) (fun c q => ko b c q) kt⟩
  · rw [upd_ne hb] at e
    exact (I.hok b v e).stay (fun c w _ q => q) (fun c q => ko b c q) kt
end
noncomputable def ItD (d : Addr) (o : Obj) (u : HO) (ks : List V) : It := ⟨fun i H => H d = some (.frz o u) ∧ i < ks.length, fun i H x H' => H' = H ∧ ks[i]? = some x, fun i H => H d = some (.frz o u) ∧ ks.length ≤ i⟩
theorem turn_dict {P : Program} {w : World} {K : PySem.W.Frag} {tg : Expr} {d it : Addr} {o : Obj} {u : HO} {ks : List V} {es : Array DictEntry} {ep : Nat} (hx : o.ExactDict) (hd : o.data = .dict es ep) (hl : ks.length = es.size) (hk : ∀ (i : Nat) (k : V), ks[i]? = some k → ∃ e : DictEntry, es[i]? = some e ∧ RelV k e.key) :
    Turn P w K tg (ItD d o u ks) [it] it (fun i h => h.IsKeyIter it d i es.size ep) where
  mem := by simp
  obj := fun i h st b hb => by
    have z : b = it := by simpa using hb
    subst z
    obtain ⟨oi, ei, ci, di⟩ := st
    exact ⟨oi, ei, fun v y => by rw [di] at y; cases y⟩
  keep := fun i h h' st kp => st.at fun ob e => kp it (by simp) ob e
  item := by
    intro X hP hw hK hc i pins s σ H E I hf st hg
    subst hP hw hK
    obtain ⟨hfz, hi⟩ := hg
    have hod : s.heap.get? d = some o := (show ObjOk X.prog X.w H s.heap d (.frz o u) from I.hok d _ hfz).1
    obtain ⟨k, hki⟩ : ∃ k, ks[i]? = some k := ⟨ks[i], by simp [hi]⟩
    obtain ⟨e, he, hr⟩ := hk i k hki
    obtain ⟨f0, f1, f2, f3, f4, f5⟩ := hf it (by simp)
    refine raw_item st ⟨o, hod, hx, hd⟩ he fun h' st' sb => ?_
    have I1 : Inv X pins σ H { s with heap := h' } := I.turned (t' := s.toks) (fun b ob hb e => (sb.2 b hb).trans e) f0 f1 f3 f4 f5
    obtain ⟨oi, ei, ci, di⟩ := id st'
    exact ⟨e.key, rfl, go_of (s := { s with heap := h' }) ei ci di (by decide) ⟨k, H, I1, hr, ⟨rfl, hki⟩, st', fun b hb => (hf b hb).1⟩⟩
  done := by
    intro X hP hw hK hc i pins s σ H E I hf st hg
    subst hP hw hK
    obtain ⟨hfz, hi⟩ := hg
    have hod : s.heap.get? d = some o := (show ObjOk X.prog X.w H s.heap d (.frz o u) from I.hok d _ hfz).1
    obtain ⟨f0, f1, f2, f3, f4, f5⟩ := hf it (by simp)
    exact raw_stop (I.ok.hd hc) st ⟨o, hod, hx, hd⟩ (by simp; omega) fun h' eb => ⟨rfl, I.turned (t' := s.toks) (fun b ob hb e => eb b ob hb e) f0 f1 f3 f4 f5⟩
  self := fun _ _ _ _ _ st h => wpAny_pyIter_keyiter st h
section
variable {X : Cx} {tg : Expr}
theorem keys_rawK {H : Hp} {h : Heap} {d : Addr} {kvs : List (Key × V)} (ok : ObjOk X.prog X.w H h d (.dK kvs)) : ∃ (o : Obj) (es : Array DictEntry) (ep : Nat), h.get? d = some o ∧ o.ExactDict ∧ o.data = .dict es ep ∧ (d == sysModules) = false ∧ (keysV kvs).length = es.size ∧ ∀ (i : Nat) (k : V), (keysV kvs)[i]? = some k → ∃ e : DictEntry, es[i]? = some e ∧ RelV k e.key := by
  obtain ⟨z, lo, vs, rel, o, es, ep, h1, h2, h3, h4, h5, h6⟩ := ok
  have l1 := rel.length
  have l2 : es.size = vs.length := by rw [← h5.length]; simp
  refine ⟨o, es, ep, h1, h2, h3, lo, by rw [length_keysV]; omega, fun i k e => ?_⟩
  unfold keysV at e
  rw [List.getElem?_map] at e
  cases hkv : kvs[i]? with
  | none => rw [hkv] at e; cases e
  | some kv =>
    rw [hkv] at e
    have ek : kV kv.1 = k := Option.some.inj e
    obtain ⟨v, hv, hrel⟩ := Paired.get? rel hkv
    have hi : i < es.size := by rw [l2]; exact (List.getElem?_eq_some_iff.mp hv).1
    have h7 := (h5.get? (e := es[i]) (k := v.1) (v := v.2) (by simp [hi]) hv).1
    refine ⟨es[i], by simp [hi], ?_⟩
    rw [← ek, show kv.1 = v.1 from hrel.1]
    exact is_kV h7
noncomputable def iDictK (te : TE) : TI := fun σ H R => te σ H fun x H1 => ∃ d kvs, x = .ref d ∧ ((H1 d = some (.dK kvs) ∧ ∀ o, R (ItD d o (.dK kvs) (keysV kvs)) (upd H1 d (.frz o (.dK kvs)))) ∨ ∃ o, H1 d = some (.frz o (.dK kvs)) ∧ R (ItD d o (.dK kvs) (keysV kvs)) H1)
theorem pi_dictK {l : Expr} {tl : TE} (hl : PE X l tl) : PI X tg l (iDictK tl) := by
  intro pins s σ H R I h
  refine thn (hl pins s σ H _ I h) fun v s1 ⟨x, H1, I1, r1, q1⟩ => ?_
  obtain ⟨d, kvs, e, q⟩ := q1
  subst e
  cases r1
  have ok : ObjOk X.prog X.w H1 s1.heap d (.dK kvs) := by
    rcases q with ⟨hd, _⟩ | ⟨o, hd, _⟩
    · exact I1.hok d _ hd
    · exact (show ObjOk X.prog X.w H1 s1.heap d (.frz o (.dK kvs)) from I1.hok d _ hd).2
  obtain ⟨o, es, ep, h1, h2, h3, lo, hlen, hks⟩ := keys_rawK ok
  have fin : ∀ H2 : Hp, Inv X pins σ H2 s1 → R (ItD d o (.dK kvs) (keysV kvs)) H2 → wpAny (model X.prog X.w) X.A (pyIter (.ref d)) (PIE X pins σ tg R) X.xe s1 := fun H2 I2 q2 => by
    refine raw_iter lo ⟨o, h1, h2, h3⟩ ?_
    refine ⟨s1.heap.objs.size, [s1.heap.objs.size], _, _, H2, rfl, I2.kept (t' := s1.toks) fun b ob e => Heap.get?_push_of_some _ e, turn_dict h2 h3 hlen hks, ⟨_, Heap.get?_push_size _ rfl, rfl, rfl⟩, fun b hb => ?_, q2⟩
    have z : b = s1.heap.objs.size := by simpa using hb
    subst z
    exact I2.fpOk (Nat.le_refl _) (I2.hok.fresh (Nat.le_refl _))
  rcases q with ⟨hd, q⟩ | ⟨o', hd, q⟩
  · exact fin _ (I1.freeze hd (fun _ z => nomatch z) (fun _ _ z => nomatch z) (fun _ z => nomatch z) (fun _ z => nomatch z) h1) (q o)
  · have ho := (show ObjOk X.prog X.w H1 s1.heap d (.frz o' (.dK kvs)) from I1.hok d _ hd).1
    have eo : o' = o := Option.some.inj (ho.symm.trans h1)
    subst eo
    exact fin H1 I1 q
end
theorem for_dict {d : Addr} {o : Obj} {u : HO} {ks : List V} {g : TG} {tb : TS} {D : Ends} {σ : St} {H : Hp} (Pv : Nat → St → Hp → Prop) (h0 : Pv 0 σ H) (hl : ∀ i σ H, i ≤ ks.length → Pv i σ H → H d = some (.frz o u)) (hs : ∀ (i : Nat) (k : V) σ H, ks[i]? = some k → Pv i σ H → g k σ H fun σ2 H2 => tb { D with nx := Pv (i + 1), ct := Pv (i + 1), bk := D.nx } σ2 H2) (hd : ∀ σ H, Pv ks.length σ H → D.nx σ H) :
    ∃ W : Nat → Nat → St → Hp → Prop, (∃ m, W 0 m σ H) ∧ ∀ i m σ H, W i m σ H →
      ((ItD d o u ks).stop i H ∧ D.nx σ H) ∨ ((ItD d o u ks).go i H ∧ ∃ N : St → Hp → Prop, (∀ σ' H', N σ' H' → ∃ m', m' < m ∧ W (i + 1) m' σ' H') ∧ ∀ y H', (ItD d o u ks).yld i H y H' → g y σ H' fun σ2 H2 => tb { D with nx := N, ct := N, bk := D.nx } σ2 H2) := by
  refine ⟨fun i m σ H => m = ks.length - i ∧ i ≤ ks.length ∧ Pv i σ H, ⟨_, rfl, Nat.zero_le _, h0⟩, ?_⟩
  rintro i m σ H ⟨rfl, hi, p⟩
  have q := hl i σ H hi p
  by_cases hlt : i < ks.length
  · refine .inr ⟨⟨q, hlt⟩, Pv (i + 1), fun σ' H' p' => ⟨ks.length - (i + 1), by omega, rfl, hlt, p'⟩, ?_⟩
    rintro y H' ⟨rfl, hy⟩
    exact hs i y σ _ hy p
  · have e : i = ks.length := by omega
    subst e
    exact .inl ⟨⟨q, Nat.le_refl _⟩, hd σ H p⟩
end L2
set_option Elab.async false
set_option linter.all false
set_option maxRecDepth 100000
set_option maxHeartbeats 16000000
namespace L2
open PySem PySem.Spec PyProof.Rows
noncomputable def isS (x : Str) : Value → Bool
  | .str z _ => z == x
  | _ => false
section
variable {X : Cx}
theorem mt_index : MtR X "list.index" (fun x vs H Q => ∃ (l : Addr) (ys : List Str) (w : Str) (j : Nat), x = .ref l ∧ vs = [.str w] ∧ SqL X.K H l (ys.map V.str) ∧ ys[j]? = some w ∧ (∀ i, i < j → ys[i]? ≠ some w) ∧ Q (.int (j : Int)) H) := by
  intro pins s σ H x xs v us Q I rx rs h
  obtain ⟨l, ys, w, j, rfl, rfl, hq, hj, hno, q⟩ := h
  cases rx
  obtain ⟨u, rfl, t, rfl⟩ := vals1 rs
  obtain ⟨its, r', pl, hz⟩ := I.list hq
  obtain ⟨⟨cls, dd, data, sl⟩, ho, hc, n, hd⟩ := pl.isList
  simp only at hc hd
  subst hc hd
  have hl := r'.length
  rw [List.length_map] at hl hz
  have hjl : j < ys.length := (List.getElem?_eq_some_iff.mp hj).1
  have hsl : sizeLine = 16777216 := sizeLine_eq
  have at' : ∀ m (hm : m < its.toArray.size) (y : Str), ys[m]? = some y → isS w its.toArray[m] = (y == w) := fun m hm y hy => by
    obtain ⟨u, hu, ru⟩ := r'.get (i := m) (x := V.str y) (by rw [List.getElem?_map, hy]; rfl)
    obtain ⟨t', rfl⟩ := ru
    have e : its.toArray[m] = .str y t' := by
      have : its[m]? = some its.toArray[m] := by simp at hm; simp [hm]
      rw [hu] at this
      exact (Option.some.inj this).symm
    rw [e]
    rfl
  refine call_meets PySem.F.slot_list_index ⟨_, ho, rfl⟩ PySem.F.entry_list_index (PySem.F.args_list_index_2 _ _)
    (SeqAt.list_indexAt l its.toArray n dd sl (.str w t) (isS w) j (by simp; omega) (by omega) ?_ ?_) ⟨ho, fun y hy => ?_, ⟨.int (j : Int), H, I.tok _, ⟨_, rfl⟩, q⟩⟩
  · rw [at' j (by simp; omega) w hj]
    exact beq_self_eq_true w
  · intro m hm hlt
    obtain ⟨y, hy⟩ : ∃ y, ys[m]? = some y := ⟨ys[m]'(by omega), by simp⟩
    rw [at' m hm y hy]
    exact beq_eq_false_iff_ne.mpr fun z => hno m hlt (by rw [hy, z])
  · obtain ⟨m, hm, e⟩ := Array.mem_iff_getElem.mp hy
    have hm' : m < ys.length := by simp at hm; omega
    obtain ⟨u, hu, ru⟩ := r'.get (i := m) (x := V.str ys[m]) (by rw [List.getElem?_map]; simp [hm'])
    have e2 : its.toArray[m] = u := by
      have : its[m]? = some its.toArray[m] := by simp at hm; simp [hm]
      rw [hu] at this
      exact (Option.some.inj this).symm
    rw [← e, at' m hm ys[m] (by simp [hm']), e2]
    have := eqAt_V (A := X.A.in1) (s := s) ru (show RelV (V.str w) (.str w t) from ⟨t, rfl⟩) rfl rfl
    exact this
end
end L2
set_option Elab.async false
set_option linter.all false
set_option maxRecDepth 100000
set_option maxHeartbeats 16000000
namespace L2
open PySem PySem.Spec PyProof.Rows
section
variable {X : Cx}
end
end L2
set_option Elab.async false
set_option linter.all false
set_option maxRecDepth 100000
set_option maxHeartbeats 16000000
namespace L2
open PySem PySem.Spec PyProof.Rows
noncomputable def HasM (K : PySem.W.Frag) (C : Addr) (m qual : Str) (st : Stmt) : Prop := ∃ f fd, Fun K m qual st f fd ∧ Meth K C m f
theorem hasM_mk {K : PySem.W.Frag} {C : Addr} {m qual : Str} {st : Stmt} {f : Addr} {oc : Value} {od an : Option Addr} {osl : Array (Option Value)} {kV doc pm cdv ct : Value}
    (a : PySem.W.findIn K (.ref C) m = some (some (.ref f))) (i : PySem.W.isFn K (.ref f) = true) (l : K.lookup f = some ⟨oc, od, .func (PySem.W.fnOf m qual (defArgs st) (defBody st) (defScope st) .none kV doc pm an cdv ct), osl⟩)
    (c : PySem.W.codeIn K cdv qual = true) (k : PySem.W.keepIn K (.ref f) = true) : HasM K C m qual st := ⟨f, _, fun_mk l c k, ⟨a, i, k⟩⟩
structure MCl (P : Program) (w : World) (K : PySem.W.Frag) (mg : Str → Option Value) (base : Heap) (k : Nat) (C : Addr) (m : Str) (ps : List Str) (sp : Sp) : Prop where
  ex : ∃ f fd, FnOk P w K mg base CX0 k f fd ps sp ∧ Meth K C m f ∧ Binds K fd ps []
section
variable {P : Program} {w : World} {K : PySem.W.Frag} {mg : Str → Option Value} {base : Heap}
theorem MCl.of {C : Addr} {m qual : Str} {st : Stmt} {N ps : List Str} {k : Nat} {sp : Sp} (T : HasM K C m qual st) (S : FnScope N ps (defScope st)) (len : ∀ vs H Q E, sp vs H Q E → vs.length = ps.length)
    (hb : ∀ (kV doc pm : Value) (an : Option Addr) (cdv ct : Value) (us : List Value), us.length = ps.length → bindArgs (PySem.W.fnOf m qual (defArgs st) (defBody st) (defScope st) .none kV doc pm an cdv ct) ⟨us, []⟩ = pure (ps.zip us))
    (hbody : ∀ (f : Addr) (cdv : Value) (A : Around) (outer : List Env) (s : Shared) (H : Hp) (vs : List V) (Q : VK) (E : XK), Room k (A.deeper (envOfC qual (defScope st) s.heap.objs.size f cdv)) → sp vs H Q E →
      ∃ t, PSs (cxOf CX0 P w K mg base N qual (defScope st) f cdv A outer s H E).nox (defBody st) t ∧ t { nx := fun _ H' => Q .non H', rt := Q } (start N vs) H) : MCl P w K mg base (k + 1) C m ps sp := by
  obtain ⟨f, fd, F, M⟩ := T
  exact ⟨f, fd, F.ok S len (fun cdv A outer s H vs Q E => hbody f cdv A outer s H vs Q E), M, F.binds hb⟩
end
section
variable {X : Cx} {j k : Nat} {C : Addr} {x m : Str} {ps : List Str} {sp : Sp} {o e : Expr} {es : List Expr} {ta : TE} {t : TA} {p pos apos : Pos}
theorem pe_m {pl : Sem Bool} (M : MCl X.prog X.w X.K X.mg X.base j C m ps sp) (c : Cls X.K C) (hr : Room k X.A) (he : PE X o ta) (ha : PA X (e :: es) t) (hjk : j ≤ k := by decide)
    (hst : starEach (e :: es) X.env = (false, eval e X.env) :: starEach es X.env := by rfl) (hpl : (backTo pos (starEach es X.env)).any (·.1) = false := by rfl)
    (ht : eval (.Call (.Attribute o m apos) (e :: es) [] pos) X.env = (do
      let ov ← eval o X.env
      standAt apos.atName
      let (f, first) ← holding [ov] (getMethod ov m pl)
      callWith pos f first (backTo pos (starEach (e :: es) X.env)) (backToKw pos (keywordEach [] X.env))) := by rfl) :
    PE X (.Call (.Attribute o m apos) (e :: es) [] pos) (tMeth C m sp [] E0 ta t) := by
  obtain ⟨f, fd, F, hm, hb⟩ := M.ex
  exact pe_meth he c hm F (hr.mono hjk) hb .nil pass0 ha hst hpl ht
end
end L2
set_option Elab.async false
set_option linter.all false
set_option maxRecDepth 100000
set_option maxHeartbeats 16000000
namespace L2
open PySem PySem.Spec PyProof.Rows PySem.W RV
end L2
set_option Elab.async false
set_option linter.all false
set_option maxRecDepth 100000
set_option maxHeartbeats 16000000
namespace L2
open PySem PySem.Spec PyProof.Rows
section
variable {A : GA} {tk : Int} {ft : V} {rd md : Addr}
end
noncomputable abbrev Ft := Str × Str × Nat × Int
section
variable {CP CG : Addr} {H : Hp} {g : Addr} {A : GA} {N : Nt} {ns : List Int} {S : GS}
end
end L2
set_option Elab.async false
set_option linter.all false
set_option maxRecDepth 100000
set_option maxHeartbeats 16000000
namespace L2
open PySem PySem.Spec PyProof.Rows
end L2
set_option linter.all false
namespace L2
open PySem
end L2
set_option Elab.async false
set_option linter.all false
set_option maxRecDepth 100000
set_option maxHeartbeats 16000000
namespace L2
open PySem PySem.Spec PyProof.Rows
section
variable {X : Cx}
end
end L2
set_option Elab.async false
set_option linter.all false
set_option maxRecDepth 100000
set_option maxHeartbeats 16000000
namespace L2
open PySem PySem.Spec PyProof.Rows
section
variable {X : Cx}
theorem vals_of_ints : ∀ {us : List Value} {ns : List Int}, IntsAre us ns → Vals (ns.map V.int) us
  | _, _, .nil => .nil
  | _, _, .cons _ _ h => .cons ⟨_, rfl⟩ (vals_of_ints h)
end
end L2
set_option Elab.async false
set_option linter.all false
set_option maxRecDepth 100000
set_option maxHeartbeats 16000000
namespace L2
open PySem PySem.Spec PyProof.Rows
section
variable {prog : Program} {w : World} {A : Around} {E : Value → Shared → Prop} {s : Shared}
end
section
variable {X : Cx}
end
end L2
set_option Elab.async false
set_option linter.all false
set_option maxRecDepth 100000
set_option maxHeartbeats 16000000
namespace L2
open PySem PySem.Spec PyProof.Rows
theorem extend_tup (l b : Addr) (items : Array Value) (n : Nat) (items2 : Array Value) (hlong : ¬ (!items.isEmpty && Builtin.List.listTooLong (items.size + items2.size)) = true) (h1 : items.size ≤ sizeLine) (h2 : items.size + items2.size ≤ sizeLine) :
    Meets (Builtin.«list.extend» ⟨[.ref l, .ref b], []⟩) (fun _ R s => s.heap.get? l = some { cls := .type "list", dict := none, data := .seq items n, slots := #[] } ∧ (∃ o n2, s.heap.get? b = some o ∧ o.cls = .type "tuple" ∧ o.data = .seq items2 n2) ∧
      R (.ok (.ret Value.none)) { s with heap := s.heap.update l (Obj.mapSeq fun x => x ++ items2) }) :=
  .of_wp fun prog w A R s h => by
    obtain ⟨hl, ⟨o, n2, ho, hc, hd⟩, q⟩ := h
    show wpAny _ _ (Builtin.List.listExtendWith (.ref l) (.ref b) .none) _ _ s
    unfold Builtin.List.listExtendWith
    apply wpAny_bind
    refine wpAny_typeOf (T := "tuple") ⟨o, ho, hc⟩ ?_
    rw [if_pos (by simp)]
    apply wpAny_bind
    refine listItems_at ho hd ?_
    apply wpAny_bind
    refine listItems_at hl rfl ?_
    rw [if_neg hlong]
    apply wpAny_bind
    refine listUpdate_at hl rfl ?_ h1 (by rw [Array.size_append]; omega)
    exact wpAny_pure ⟨_, rfl, q⟩
section
variable {X : Cx}
noncomputable def rExtendT (K : PySem.W.Frag) : V → List V → Hp → VK → Prop := fun x vs H Q => ∃ l b xs zs, x = .ref l ∧ vs = [.ref b] ∧ H l = some (.lst xs) ∧ SqT K H b zs ∧ xs.length + zs.length ≤ sizeLine ∧ Q .non (upd H l (.lst (xs ++ zs)))
theorem mt_extendT : MtM X "list.extend" (rExtendT X.K) := by
  intro pins s σ H x vs v us Q I rx rv h
  obtain ⟨l, b, xs, zs, rfl, rfl, hH, hB, hz, q⟩ := h
  cases rx
  obtain ⟨u, rfl, ru⟩ := rv.one
  cases ru
  obtain ⟨z, its, n, r, hl, e⟩ := I.lstM hH
  obtain ⟨its2, r2, ⟨o, ho, hc, n2, hd⟩, z2⟩ := I.tuple hB
  have l1 := r.length
  have l2 := r2.length
  have hsz : its.toArray.size + its2.toArray.size ≤ sizeLine := by rw [List.size_toArray, List.size_toArray]; omega
  have hlong : ¬ (!its.toArray.isEmpty && Builtin.List.listTooLong (its.toArray.size + its2.toArray.size)) = true := by
    rw [notLongL hsz, Bool.and_false]
    exact Bool.false_ne_true
  refine call_meets PySem.F.slot_list_extend ⟨_, e, rfl⟩ PySem.F.entry_list_extend (PySem.F.args_list_extend_2 _ _) (extend_tup l b its.toArray n its2.toArray hlong (by rw [List.size_toArray]; omega) hsz) ⟨e, ⟨o, n2, ho, hc, hd⟩, ?_⟩
  refine ⟨.non, _, I.lset (its' := its ++ its2) hH e (by simp) (r.append r2) ?_, rfl, q⟩
  rw [List.length_append]
  omega
end
end L2
set_option Elab.async false
set_option linter.all false
set_option maxRecDepth 100000
set_option maxHeartbeats 16000000
namespace L2
open PySem PySem.Spec PyProof.Rows PySem.W RG
open AutoSeq1 (wpAny_loadPart')
section
variable {prog : Program} {w : World} {A : Around} {E : Value → Shared → Prop} {s : Shared}
end
section
variable {X : Cx} {e : Expr} {te : TE} {pos pos3 p p3 : Pos}
end
end L2
set_option Elab.async false
set_option linter.all false
set_option maxRecDepth 100000
set_option maxHeartbeats 16000000
namespace L2
open PySem PySem.Spec PyProof.Rows PySem.W
section
variable {X : Cx} {e : Expr} {te : TE} {pos pos3 p p3 : Pos}
end
end L2
set_option Elab.async false
set_option linter.all false
set_option maxRecDepth 100000
set_option maxHeartbeats 16000000
namespace L2
open PySem PySem.Spec PyProof.Rows PySem.W
section
variable {prog : Program} {w : World} {A : Around} {R : Result → Shared → Prop} {it best : Addr} {fp wr : List Addr} {n : Nat} {P : Nat → Value → Prop} {St : Nat → Heap → Prop}
end
section
variable {X : Cx}
end
end L2
set_option Elab.async false
set_option linter.all false
set_option maxRecDepth 100000
set_option maxHeartbeats 16000000
namespace L2
open PySem PySem.Spec PyProof.Rows
section
variable {X : Cx}
theorem call_sortedP : CallR X (.builtin "sorted") (fun xs H Q => ∃ (p : Addr) (ns ms : List Int), xs = [.ref p] ∧ SqL X.K H p (ns.map V.int) ∧ ns.length < 64 ∧ ns.Perm ms ∧ ms.Pairwise (· ≤ ·) ∧ ∀ l, H l = none → Q (.ref l) (upd H l (.lst (ms.map V.int)))) := by
  intro pins s σ H xs us Q I r h
  obtain ⟨p, ns, ms, rfl, hq, h64, hp, hs, q⟩ := h
  obtain ⟨u, rfl, rx⟩ := vals1 r
  cases rx
  obtain ⟨its, r', pl, hz⟩ := I.list hq
  have hi := intsAre_of r'
  have hlen := r'.length
  have hpl := hp.length_eq
  rw [List.length_map] at hlen hz
  refine sorted_ints pl.isList hi (by omega) fun out ns' a1 a2 a3 => ?_
  have e : ns' = ms := PySem.W.ksm_same (a2.trans hp) a3 hs
  subst e
  obtain ⟨ep, he⟩ := sortedAll_at s.heap its out
  have hob : ObjOk X.prog X.w (upd H (s.heap.objs.size + 1) (.lst (ns'.map V.int))) (sortedAll s.heap its out) (s.heap.objs.size + 1) (.lst (ns'.map V.int)) := ⟨by rw [List.length_map]; omega, out.toList, ep, vals_of_ints a1, by rw [he, Array.toArray_toList]⟩
  exact ⟨.ref (s.heap.objs.size + 1), _, I.laid (t' := s.toks) (fun b o hb => sortedAll_old hb) (Nat.le_succ _) hob, rfl, q _ (I.hok.fresh (Nat.le_succ _))⟩
noncomputable def iOr (a b : TI) : TI := fun σ H R => a σ H R ∨ b σ H R
theorem pi_or {tg e : Expr} {a b : TI} (h1 : PI X tg e a) (h2 : PI X tg e b) : PI X tg e (iOr a b) := fun pins s σ H R I h => h.elim (fun z => h1 pins s σ H R I z) (fun z => h2 pins s σ H R I z)
end
end L2
set_option Elab.async false
set_option linter.all false
set_option maxRecDepth 100000
set_option maxHeartbeats 16000000
namespace L2
open PySem PySem.Spec PyProof.Rows
theorem val_at {xs : List V} {its : List Value} (r : Vals xs its) {j : Nat} {x : V} (h : xs[j]? = some x) (hj : j < its.toArray.size) : RelV x its.toArray[j] := by
  obtain ⟨w1, g1, rw1⟩ := r.get h
  have : its[j]? = some its.toArray[j] := by simp at hj; simp [hj]
  rw [g1] at this
  rw [← Option.some.inj this]
  exact rw1
end L2
set_option Elab.async false
set_option linter.all false
set_option maxRecDepth 100000
set_option maxHeartbeats 16000000
namespace L2
open PySem PySem.Spec PyProof.Rows
end L2
set_option Elab.async false
set_option linter.all false
set_option maxRecDepth 100000
set_option maxHeartbeats 16000000
namespace L2
open PySem PySem.Spec PyProof.Rows
theorem maxB_le (f : Nat → Int) : ∀ k, argBest (fun i j => decide (f i > f j)) k ≤ k ∧ ∀ i, i ≤ k → f i ≤ f (argBest (fun i j => decide (f i > f j)) k)
  | 0 => ⟨Nat.le_refl _, fun i hi => by rw [Nat.le_zero.mp hi]; exact Int.le_refl _⟩
  | k + 1 => by
    obtain ⟨h1, h2⟩ := maxB_le f k
    show (if decide (f (k + 1) > f (argBest (fun i j => decide (f i > f j)) k)) then k + 1 else argBest (fun i j => decide (f i > f j)) k) ≤ k + 1 ∧ ∀ i, i ≤ k + 1 → f i ≤ f (if decide (f (k + 1) > f (argBest (fun i j => decide (f i > f j)) k)) then k + 1 else argBest (fun i j => decide (f i > f j)) k)
    by_cases hl : f (k + 1) > f (argBest (fun i j => decide (f i > f j)) k)
    · rw [if_pos (decide_eq_true hl)]
      refine ⟨Nat.le_refl _, fun i hi => ?_⟩
      by_cases z : i = k + 1
      · rw [z]; exact Int.le_refl _
      · exact Int.le_trans (h2 i (by omega)) (Int.le_of_lt hl)
    · rw [if_neg (by simpa using hl)]
      refine ⟨by omega, fun i hi => ?_⟩
      by_cases z : i = k + 1
      · rw [z]; exact Int.not_lt.mp hl
      · exact h2 i (by omega)
theorem call_maxL {X : Cx} (hc : X.calm = true) : CallR X (.builtin "max") (fun xs H Q => ∃ (p : Addr) (ns : List Int), xs = [.ref p] ∧ SqL X.K H p (ns.map V.int) ∧ ns ≠ [] ∧ ∀ m : Int, m ∈ ns → (∀ n ∈ ns, n ≤ m) → Q (.int m) H) := by
  intro pins s σ H xs us Q I r h
  obtain ⟨p, ns, rfl, hq, hne, q⟩ := h
  obtain ⟨u, rfl, ru⟩ := vals1 r
  cases ru
  obtain ⟨its, r', pl, hz⟩ := I.list hq
  have hi := intsAre_of r'
  obtain ⟨ys, hx⟩ := hi.allInts.items
  have hl' : s.heap.IsList p (intItems ys) := hx ▸ pl.isList
  have e1 : ns = ys.toList.map (·.1) := by
    rw [← nums_intItems, ← hx]
    exact (show numsOf its.toArray.toList = ns from hi.numsOf).symm
  have hsz : ys.size = ns.length := by rw [e1]; simp
  have hpos : 0 < ns.length := List.length_pos_iff.mpr hne
  have hat : ∀ i, i < ns.length → ns[i]? = some (numAt ys i) := fun i hi => by
    have h2 : i < ys.size := by omega
    rw [e1]
    simp [numAt, h2]
  obtain ⟨b1, b2⟩ := maxB_le (numAt ys) (ys.size - 1)
  refine max_intList (I.ok.hd hc) hl' (by omega) fun v h' tk hv hk => ?_
  generalize argBest (fun i j => decide (numAt ys i > numAt ys j)) (ys.size - 1) = k at hv b1 b2
  have hkl : k < ns.length := by omega
  have ev : ∃ t, v = .int (numAt ys k) t := by
    have hks : k < ys.size := by omega
    unfold intItems at hv
    simp [hks] at hv
    exact ⟨_, by rw [← hv]; simp [numAt, hks]; rfl⟩
  obtain ⟨t, rfl⟩ := ev
  refine ⟨.int _, H, I.kept hk, ⟨_, rfl⟩, q _ (List.mem_of_getElem? (hat k hkl)) fun n hn => ?_⟩
  obtain ⟨i, hi'⟩ := List.getElem?_of_mem hn
  have hil := (List.getElem?_eq_some_iff.mp hi').1
  rw [hat i hil] at hi'
  rw [← Option.some.inj hi']
  exact b2 i (by omega)
end L2
set_option Elab.async false
set_option linter.all false
set_option maxRecDepth 100000
set_option maxHeartbeats 16000000
namespace XC
open PySem
noncomputable abbrev frsOf (l : List Env) : List Addr := l.filterMap (·.frame)
section
variable {M : Model} {A : Around} {E : Value → Shared → Prop} {s : Shared}
end
end XC
set_option Elab.async false
set_option linter.all false
set_option maxRecDepth 100000
set_option maxHeartbeats 16000000
namespace L2
open PySem PySem.Spec PyProof.Rows XC
theorem ObjOk.there {P : Program} {w : World} {H : Hp} {h : Heap} {a : Addr} {o : HO} (x : ObjOk P w H h a o) : ∃ u, h.get? a = some u := by
  cases o with
  | lst xs => obtain ⟨_, _, _, _, e⟩ := x; exact ⟨_, e⟩
  | tup xs => obtain ⟨_, _, _, o, e, _⟩ := x; exact ⟨_, e⟩
  | dK kvs => obtain ⟨_, _, _, _, o, _, _, e, _⟩ := x; exact ⟨_, e⟩
  | dT kvs => obtain ⟨_, _, _, _, o, _, _, e, _⟩ := x; exact ⟨_, e⟩
  | set S n => obtain ⟨o, _, _, _, e, _⟩ := x; exact ⟨_, e⟩
  | ins C dx fs => obtain ⟨_, _, _, e, _⟩ := x; exact ⟨_, e⟩
  | own y => obtain ⟨_, e⟩ := x; exact ⟨_, e⟩
  | xd fs => obtain ⟨_, ⟨_, _, _, e, _⟩, _⟩ := x; exact ⟨_, e⟩
  | rng lo hi => obtain ⟨_, _, _, e⟩ := x; exact ⟨_, e⟩
  | frz ob u => obtain ⟨e, _⟩ := x; exact ⟨_, e⟩
  | tbl ps => exact ⟨_, x⟩
  | met f y => exact ⟨_, x⟩
  | ext φ => obtain ⟨_, ⟨_, e⟩, _⟩ := x; exact ⟨_, e⟩
section
variable {P : Program} {w : World} {K : PySem.W.Frag} {mg : Str → Option Value} {base : Heap} {N : List Str} {qual : Str} {scope : Scope} {f : Addr} {cd : Value} {A : Around} {outer : List Env} {s : Shared} {H : Hp} {E : XK} {pins : List (Addr × Obj)} {σ : St} {H' : Hp} {s' : Shared}
end
end L2
set_option Elab.async false
set_option linter.all false
set_option maxRecDepth 100000
set_option maxHeartbeats 16000000
namespace L2
open PySem PySem.Spec PyProof.Rows XC
section
variable {X : Cx} {pins : List (Addr × Obj)} {σ : St} {H H' : Hp} {s : Shared} {h' : Heap} {a : Addr} {ts : List Addr}
end
noncomputable abbrev Cx.hand (X : Cx) (a : Addr) : Cx := { X with A := X.A.mark (some (.ref a)), calm := false, xe := fun _ _ => False }
section
variable {X : Cx} {pins : List (Addr × Obj)} {σ : St} {H : Hp} {s : Shared} {a : Addr}
end
section
variable {X : Cx} {j k : Nat} {f : Str} {ps : List Str} {sp : Sp} {e : Expr} {es : List Expr} {ta : TA} {p pos cpos : Pos}
end
section
variable {X : Cx} {body : List Stmt} {tb : XK → TS} {x n : Str} {B : Addr} {i : Nat} {b0 : Stmt} {suite : List Stmt} {th : Addr → TS} {np hp pos : Pos}
end
noncomputable abbrev bmV : List Value := [.type "ValueError", .type "Exception", .type "BaseException", .type "object"]
section
variable {P : Program} {w : World} {K : PySem.W.Frag} {mg : Str → Option Value} {base : Heap} {N : List Str} {qual : Str} {scope : Scope} {f : Addr} {cd : Value} {A : Around} {outer : List Env} {s : Shared} {H : Hp} {E : XK}
end
end L2
set_option Elab.async false
set_option linter.all false
set_option maxRecDepth 100000
set_option maxHeartbeats 16000000
namespace L2
open PySem PySem.Spec PyProof.Rows XC
section
variable {prog : Program} {w : World} {A : Around} {E : Value → Shared → Prop} {s : Shared} {K : PySem.W.Frag} {x C : Addr} {ox : Obj} {od : Option Obj}
end
end L2
set_option Elab.async false
set_option linter.all false
set_option maxRecDepth 100000
set_option maxHeartbeats 16000000
namespace L2
open PySem PySem.Spec PyProof.Rows XC
section
variable {prog : Program} {w : World} {A : Around} {E : Value → Shared → Prop} {s : Shared} {K : PySem.W.Frag} {x C : Addr} {o : Obj} {vs : Array Value} {f : Str} {v : Value}
end
section
variable {prog : Program} {w : World} {A : Around} {E : Value → Shared → Prop} {h : Heap} {g : Array GenState} {d : Drawn} {t : Nat} {os : OsState}
variable {nm q : Str} {C N e : Addr} {bs bm : List Value} {hdct : Bool} {sn : List Str} {sub : List Value} {ab : Bool} {col : Option Bool} {dd : Option Addr} {k0 k1 k2 k3 k5 : Option Value} {oe : Obj} {vs : Array Value} {v : Value}
end
section
variable {prog : Program} {w : World} {A : Around} {E : Value → Shared → Prop} {h : Heap} {g : Array GenState} {d : Drawn} {t : Nat} {os : OsState}
variable {nm q : Str} {C N fI : Addr} {bs bm : List Value} {hdct : Bool} {sn : List Str} {sub : List Value} {ab : Bool} {col : Option Bool} {dd : Option Addr} {k0 k1 k2 k3 k5 : Option Value} {oI : Obj} {rest : List Value}
end
end L2
set_option Elab.async false
set_option linter.all false
set_option maxRecDepth 100000
set_option maxHeartbeats 16000000
namespace L2
open PySem PySem.Spec PyProof.Rows XC
section
variable {X : Cx} {b : Str} {B : Addr} {bp apos pos spos : Pos} {e1 e2 : Expr} {ta : TA}
end
section
variable {X : Cx} {o value : Expr} {f : Str} {ta tv : TE} {pos pos' : Pos}
end
end L2
set_option Elab.async false
set_option linter.all false
set_option maxRecDepth 100000
set_option maxHeartbeats 16000000
namespace L2
open PySem PySem.Spec PyProof.Rows XC
section
variable {P : Program} {w : World} {K : PySem.W.Frag} {mg : Str → Option Value} {base : Heap} {N : List Str} {qual : Str} {scope : Scope} {f : Addr} {cd : Value} {A : Around} {outer : List Env} {s : Shared} {H : Hp} {E : XK}
end
end L2
set_option Elab.async false
set_option linter.all false
set_option maxRecDepth 100000
set_option maxHeartbeats 16000000
namespace XC
open PySem
section
variable {M : Model} {A : Around} {E : Value → Shared → Prop} {s : Shared}
end
end XC
namespace L2
open PySem PySem.Spec PyProof.Rows XC
section
variable {P : Program} {w : World} {K : PySem.W.Frag} {mg : Str → Option Value} {base : Heap} {N : List Str} {qual : Str} {scope : Scope} {f : Addr} {cd : Value} {A : Around} {outer : List Env} {s : Shared} {H : Hp} {E : XK} {pins : List (Addr × Obj)} {σ : St} {H' : Hp} {s' : Shared}
end
section
variable {X : Cx} {tg elt iter : Expr} {ifs : List Expr} {sc : Scope} {pos : Pos} {M : List Str} {ρ : List (Option Nat)} {wi : TI} {g : TG} {tt : TT} {te : TE}
end
section
variable {P : Program} {w : World} {K : PySem.W.Frag} {mg : Str → Option Value} {base : Heap} {N' : List Str} {qual : Str} {scope : Scope} {f : Addr} {cd : Value} {A : Around} {outer : List Env} {s0 : Shared} {H0 : Hp} {E : XK}
variable {tg elt iter : Expr} {ifs : List Expr} {sc : Scope} {pos : Pos} {M : List Str} {ρ : List (Option Nat)} {wi : TI} {g : TG} {tt : TT} {te : TE}
end
end L2
set_option Elab.async false
set_option linter.all false
set_option maxRecDepth 100000
set_option maxHeartbeats 16000000
namespace L2
open PySem XC
section
variable {P : Program} {w : World} {K : PySem.W.Frag} {mg : Str → Option Value} {base : Heap} {N' : List Str} {qual : Str} {scope : Scope} {f : Addr} {cd : Value} {A : Around} {outer : List Env} {s0 : Shared} {H0 : Hp} {E : XK}
variable {tg elt iter : Expr} {ifs : List Expr} {sc : Scope} {pos : Pos} {M : List Str} {ρ : List (Option Nat)} {wi : TI} {g : TG} {tt : TT} {te : TE}
end
end L2
set_option Elab.async false
set_option linter.all false
set_option maxRecDepth 100000
set_option maxHeartbeats 16000000
namespace L2
open PySem PySem.Spec PyProof.Rows
section
variable {X : Cx}
end
end L2
set_option Elab.async false
set_option linter.all false
set_option maxRecDepth 100000
set_option maxHeartbeats 16000000
namespace L2
open PySem PySem.Spec PyProof.Rows
section
variable {X : Cx} {C : Addr} {x : Str} {p pos : Pos}
structure OwnC (K : PySem.W.Frag) (C : Addr) : Prop where
  pg : PySem.W.plainGet K C "__class__" = true
  hd : PySem.W.hasDictIn K C = true
  ha : PySem.W.findIn K (.ref C) "__class__" = some (some (.builtin "object.__class__"))
  hn : PySem.W.specialIn K (.builtin "object.__class__") "__get__" = some (some (.builtin "getset_descriptor.__get__"))
  ht : PySem.W.takesIn K (.builtin "object.__class__") = some true
  hm : PySem.W.mroIn K C (.type "object") = some true
theorem ins_inst {P : Program} {w : World} {H : Hp} {h : Heap} {a C dx : Addr} {fs : List (Str × V)} (ok : HOk P w H h) (ha : H a = some (.ins C dx fs)) : ∃ od, PySem.W.InstAt h a (PySem.W.instObj C dx) C (some od) := by
  obtain ⟨d, z, ne, ob, _⟩ := (show ObjOk P w H h a (.ins C dx fs) from ok a _ ha)
  obtain ⟨od, q⟩ := (ok dx _ d).there
  exact ⟨od, ob, rfl, rfl, q⟩
theorem call_isinstI : CallR X (.builtin "isinstance") (fun xs H Q => ∃ a C dx fs B b, xs = [.ref a, .ref B] ∧ H a = some (.ins C dx fs) ∧ OwnC X.K C ∧ PySem.W.kitOne X.K (.ref C) (.ref B) = some b ∧ Q (.bl b) H) := by
  intro pins s σ H xs us Q I r h
  obtain ⟨a, C, dx, fs, B, b, rfl, ha, k, e, q⟩ := h
  obtain ⟨u, w', rfl, rx, ry⟩ := vals2 r
  cases (show u = Value.ref a from rx)
  cases (show w' = Value.ref B from ry)
  obtain ⟨od, J⟩ := ins_inst I.hok ha
  exact PySem.W.kia_one (PySem.W.kitx_own k.pg k.hd k.ha k.hn k.ht k.hm) I.kIn J e (fun z => nomatch z) fun tk => ⟨.bl b, H, I.tok _, rfl, q⟩
end
end L2
set_option Elab.async false
set_option linter.all false
set_option maxRecDepth 100000
set_option maxHeartbeats 16000000
namespace L2
open PySem PySem.Spec PyProof.Rows PySem.W
section
variable {prog : Program} {w : World} {KT : Type} [DecidableEq KT] {knd : KeyKind prog w KT} {A : Around} {E : Value → Shared → Prop} {s : Shared} {r d : Addr} {kvs : List (KT × Value)} {ep : Nat}
end
section
variable {X : Cx} {o : Expr} {to : TE} {apos cpos : Pos}
end
end L2
set_option Elab.async false
set_option linter.all false
set_option maxRecDepth 100000
set_option maxHeartbeats 16000000
namespace L2
open PySem PySem.Spec PyProof.Rows PySem.W
section
variable {X : Cx} {o : Expr} {to : TE} {apos cpos : Pos} {elts : List Expr} {k : Nat} {tpos : Pos}
end
section
variable {X : Cx} {o e f : Expr} {apos cpos : Pos} {td ty tx : TE}
end
end L2
set_option Elab.async false
set_option linter.all false
set_option maxRecDepth 100000
set_option maxHeartbeats 16000000
namespace L2
open PySem PySem.Spec PyProof.Rows
noncomputable def EqI (K : PySem.W.Frag) (H : Hp) : Nat → V → V → Prop
  | 0, x, y => x = y ∧ (flatV x = true ∨ ∃ a, x = .ref a)
  | n + 1, x, y => (x = y ∧ (flatV x = true ∨ ∃ a, x = .ref a)) ∨ ∃ a b xs ys, x = .ref a ∧ y = .ref b ∧ SqT K H a xs ∧ SqT K H b ys ∧ Paired (EqI K H n) xs ys
theorem eqI_items {X : Cx} {pins : List (Addr × Obj)} {s : Shared} {σ : St} {H : Hp} {A : Around} {n : Nat} {xs ys : List V} {js js2 : List Value} (hP : Paired (EqI X.K H n) xs ys) (q1 : Vals xs js) (q2 : Vals ys js2)
    (ih : ∀ x y v u, EqI X.K H n x y → RelV x v → RelV y u → SeqAt.EqAt A s v u true) : ∀ j (j1 : j < js.toArray.size) (j2 : j < js2.toArray.size), SeqAt.EqAt A s js.toArray[j] js2.toArray[j] true := by
  intro j j1 j2
  have m1 := q1.length
  have m2 := q2.length
  have k1 : j < xs.length := by simp at j1; omega
  obtain ⟨y, hy, hd⟩ := Paired.get? hP (List.getElem?_eq_getElem k1)
  exact ih _ _ _ _ hd (val_at q1 (List.getElem?_eq_getElem k1) j1) (val_at q2 hy j2)
theorem eqI_same {A : Around} {s : Shared} {x : V} {v u : Value} (f : flatV x = true ∨ ∃ a, x = .ref a) (rx : RelV x v) (ry : RelV x u) : SeqAt.EqAt A s v u true := by
  rcases f with f | ⟨a, rfl⟩
  · have := eqAt_V (A := A) (s := s) rx ry f f
    rw [eqV_refl f] at this
    exact this
  · cases rx
    cases ry
    exact SeqAt.EqAt.same _
theorem eqI_at {X : Cx} {pins : List (Addr × Obj)} {s : Shared} {σ : St} {H : Hp} (I : Inv X pins σ H s) : ∀ (n : Nat) (A : Around), A.units + n < cLine → ∀ x y v u, EqI X.K H n x y → RelV x v → RelV y u → SeqAt.EqAt A s v u true
  | 0, A, hu, x, y, v, u, h, rx, ry => by
    obtain ⟨rfl, f⟩ := h
    exact eqI_same f rx ry
  | n + 1, A, hu, x, y, v, u, h, rx, ry => by
    rcases h with ⟨rfl, f⟩ | ⟨a, b, xs, ys, rfl, rfl, ha, hb, hP⟩
    · exact eqI_same f rx ry
    · cases rx
      cases ry
      by_cases e : a = b
      · subst e
        exact SeqAt.EqAt.same _
      · obtain ⟨js, q1, pt1, _⟩ := I.tuple ha
        obtain ⟨js2, q2, pt2, _⟩ := I.tuple hb
        have m1 := q1.length
        have m2 := q2.length
        have hl := Paired.length hP
        have R := SeqAt.RcAt.tuples (A := A) (e := fun _ => true) (show s.heap.IsTuple a js.toArray from pt1) (show s.heap.IsTuple b js2.toArray from pt2) (by omega) (eqI_items (X := X) (pins := pins) (σ := σ) hP q1 q2 (eqI_at I n A.in1 (by show A.units + 1 + n < cLine; omega)))
        have e2 : ((List.range (min js.toArray.size js2.toArray.size)).all (fun _ => true) && js.toArray.size == js2.toArray.size) = true := by
          have : js.toArray.size = js2.toArray.size := by simp; omega
          simp [this]
        rw [e2] at R
        exact SeqAt.EqAt.of_refs e R
theorem op_neI {X : Cx} (n : Nat) (hu : X.A.units + 1 + n < cLine) : OpR X (compareOp .NotEq) (fun x y H Q => ∃ a b xs ys, x = .ref a ∧ y = .ref b ∧ SqT X.K H a xs ∧ SqT X.K H b ys ∧ Paired (EqI X.K H n) xs ys ∧ Q (.bl false) H) := by
  intro pins s σ H x y v u Q I rx ry h
  obtain ⟨a, b, xs, ys, rfl, rfl, ha, hb, hP, q⟩ := h
  cases rx
  cases ry
  obtain ⟨its, r1, p1, _⟩ := I.tuple ha
  obtain ⟨its2, r2, p2, _⟩ := I.tuple hb
  have hl1 := r1.length
  have hl2 := r2.length
  have hl := Paired.length hP
  refine SeqAt.RcNeAt.tuples (e := fun _ => true) (show s.heap.IsTuple a its.toArray from p1) (show s.heap.IsTuple b its2.toArray from p2) (by omega) (eqI_items (X := X) (pins := pins) (σ := σ) hP r1 r2 (eqI_at I n X.A.in1 hu)) X.prog X.w _ _ ?_
  have e : (!((List.range (min its.toArray.size its2.toArray.size)).all (fun _ => true) && its.toArray.size == its2.toArray.size)) = false := by
    have : its.toArray.size = its2.toArray.size := by simp; omega
    simp [this]
  rw [e]
  exact ⟨.bl false, H, I, rfl, q⟩
noncomputable def HasID (K : PySem.W.Frag) (C : Addr) (qual : Str) (st : Stmt) (dv : Value) : Prop := ∃ f D oc od kV doc pm an cdv ct osl oc2 od2 n2 sl2, K.lookup f = some ⟨oc, od, .func (PySem.W.fnOf "__init__" qual (defArgs st) (defBody st) (defScope st) (.ref D) kV doc pm an cdv ct), osl⟩ ∧ PySem.W.codeIn K cdv qual = true ∧ PySem.W.keepIn K (.ref f) = true ∧ Mk K C f ∧ K.lookup D = some ⟨oc2, od2, .seq #[dv] n2, sl2⟩
structure ICl1 (P : Program) (w : World) (K : PySem.W.Frag) (mg : Str → Option Value) (base : Heap) (k : Nat) (x : Str) (C : Addr) (ps : List Str) (dvs : List V) (sp : Sp) : Prop where
  ex : ∃ f fd ds, FnOk P w K mg base CX0 k f fd ps sp ∧ Mk K C f ∧ mg x = some (.ref C) ∧ Binds K fd ps ds ∧ Vals dvs ds
section
variable {P : Program} {w : World} {K : PySem.W.Frag} {mg : Str → Option Value} {base : Heap}
theorem ICl1.of {x : Str} {C : Addr} {qual : Str} {st : Stmt} {N ps : List Str} {k : Nat} {sp : Sp} {dv : Value} {ds : List Value} {dvs : List V} (T : HasID K C qual st dv) (hm : mg x = some (.ref C)) (S : FnScope N ps (defScope st)) (len : ∀ vs H Q E, sp vs H Q E → vs.length = ps.length) (hds : Vals dvs ds)
    (hb : ∀ (D : Addr) (kV doc pm : Value) (an : Option Addr) (cdv ct : Value) (us : List Value), (us ++ ds).length = ps.length → ∃ k : Option (Array Value) → Sem (List (Str × Value)), bindArgs (PySem.W.fnOf "__init__" qual (defArgs st) (defBody st) (defScope st) (.ref D) kV doc pm an cdv ct) ⟨us, []⟩ = seqItems? (.ref D) >>= k ∧ k (some #[dv]) = pure (ps.zip (us ++ ds)))
    (hbody : ∀ (f : Addr) (cdv : Value) (A : Around) (outer : List Env) (s : Shared) (H : Hp) (vs : List V) (Q : VK) (E : XK), Room k (A.deeper (envOfC qual (defScope st) s.heap.objs.size f cdv)) → sp vs H Q E →
      ∃ t, PSs (cxOf CX0 P w K mg base N qual (defScope st) f cdv A outer s H E).nox (defBody st) t ∧ t { nx := fun _ H' => Q .non H', rt := Q } (start N vs) H) : ICl1 P w K mg base (k + 1) x C ps dvs sp := by
  obtain ⟨f, D, oc, od, kV, doc, pm, an, cdv, ct, osl, oc2, od2, n2, sl2, lk, hcd, hk, M, hD⟩ := T
  refine ⟨f, _, ds, fn_of lk hcd S len fun A outer s H vs Q E hr hsp => ?_, M, hm, fun s us X hl => ?_, hds⟩
  · obtain ⟨t, h, q⟩ := hbody f cdv A outer s H vs Q E hr hsp
    exact ⟨t, h.nox, q⟩
  · obtain ⟨k, e1, e2⟩ := hb D kV doc pm an cdv ct us hl
    exact BindsTo.of_defaults rfl (X _ _ hD) rfl e1 e2
end
section
variable {X : Cx} {j k : Nat} {C : Addr} {x : Str} {ps : List Str} {sp : Sp} {e : Expr} {es : List Expr} {t : TA} {p pos : Pos} {dvs : List V}
theorem pe_mk1 (M : ICl1 X.prog X.w X.K X.mg X.base j x C ps dvs sp) (hr : Room k X.A) (hg : Gl X x) (ha : PA X (e :: es) t) (hjk : j + 1 ≤ k := by decide) (hdb : (x == ("__debug__" : Str)) = false := by decide)
    (he : starEach (e :: es) X.env = (false, eval e X.env) :: starEach es X.env := by rfl) (hpl : (backTo pos (starEach es X.env)).any (·.1) = false := by rfl) :
    PE X (.Call (.Name x p) (e :: es) [] pos) (tMake C sp dvs E0 t) := by
  obtain ⟨f, fd, ds, F, M, hm, hb, hd⟩ := M.ex
  exact pe_make M F (hr.mono hjk) hg hm hb hd pass0 ha hdb he hpl
end
noncomputable def iDictR (te : TE) : TI := fun σ H R => te σ H fun x H1 => ∃ d kvs, x = .ref d ∧ Rd H1 d (.dK kvs) ∧ ∀ (o : Obj) (Hf : Hp), (∀ a u, a ≠ d → H1 a = some u → Hf a = some u) → Hf d = some (.frz o (.dK kvs)) → (∀ a, Hf a = none → H1 a = none) → R (ItD d o (.dK kvs) (keysV kvs)) Hf
theorem pi_dictR {X : Cx} {tg l : Expr} {i : Nat} (hl : PE X l (tVar i)) : PI X tg l (iDictR (tVar i)) := by
  have h := pi_dictK (tg := tg) hl
  intro pins s σ H R I hh
  refine h pins s σ H R I ?_
  obtain ⟨v, hv, d, kvs, rfl, hrd, k⟩ := hh
  refine ⟨_, hv, d, kvs, rfl, ?_⟩
  rcases hrd with h | ⟨o, h⟩
  · refine .inl ⟨h, fun o => k o _ (fun a u ha e => by rw [upd_ne ha]; exact e) upd_same fun a ha => ?_⟩
    by_cases z : a = d
    · subst z; rw [upd_same] at ha; cases ha
    · rw [upd_ne z] at ha; exact ha
  · exact .inr ⟨o, h, k o H (fun _ _ _ e => e) h fun _ e => e⟩
end L2
set_option Elab.async false
set_option linter.all false
set_option maxRecDepth 100000
set_option maxHeartbeats 16000000
namespace K63
open PySem L2 PyProof.Rows
noncomputable def top (i : Nat) : Stmt := PySem.Challenge.pw_bundlehouse_k63_a_walk_of_packs.main.body.getD i (.Pass ⟨0, 0, 0, 0⟩)
noncomputable abbrev s_spread : Stmt := top 2
theorem sc_spread : FnScope ["onward", "some", "found", "waiting", "part"] ["onward", "some"] (defScope s_spread) := ⟨rfl, rfl, rfl, by decide +kernel, rfl, by decide +kernel, by decide +kernel⟩
noncomputable abbrev s_Walk_key_of : Stmt := inClass (top 4) 1
theorem sc_Walk_key_of : FnScope ["self", "part", "name"] ["self", "part", "name"] (defScope s_Walk_key_of) := ⟨rfl, rfl, rfl, by decide +kernel, rfl, by decide +kernel, by decide +kernel⟩
noncomputable abbrev s_PacksWalk___init__ : Stmt := inClass (top 6) 0
theorem sc_PacksWalk___init__ : FnScope ["self", "bundle", "ahead"] ["self", "bundle", "ahead"] (defScope s_PacksWalk___init__) := ⟨rfl, rfl, rfl, by decide +kernel, rfl, by decide +kernel, by decide +kernel⟩
noncomputable abbrev s_PacksWalk_rows_of : Stmt := inClass (top 6) 1
theorem sc_PacksWalk_rows_of : FnScope ["self", "part"] ["self", "part"] (defScope s_PacksWalk_rows_of) := ⟨rfl, rfl, rfl, by decide +kernel, rfl, by decide +kernel, by decide +kernel⟩
noncomputable abbrev s_PacksWalk_loads_of : Stmt := inClass (top 6) 2
theorem sc_PacksWalk_loads_of : FnScope ["self", "part"] ["self", "part"] (defScope s_PacksWalk_loads_of) := ⟨rfl, rfl, rfl, by decide +kernel, rfl, by decide +kernel, by decide +kernel⟩
noncomputable abbrev s_PacksWalk_ahead_of : Stmt := inClass (top 6) 3
theorem sc_PacksWalk_ahead_of : FnScope ["self", "root", "come", "found", "other", "packs"] ["self", "root"] (defScope s_PacksWalk_ahead_of) := ⟨rfl, rfl, rfl, by decide +kernel, rfl, by decide +kernel, by decide +kernel⟩
noncomputable abbrev s_blocks_in : Stmt := top 7
theorem sc_blocks_in : FnScope ["packs", "found", "place", "rows", "part", "number", "row"] ["packs"] (defScope s_blocks_in) := ⟨rfl, rfl, rfl, by decide +kernel, rfl, by decide +kernel, by decide +kernel⟩
noncomputable abbrev s_next_parts : Stmt := top 8
theorem sc_next_parts : FnScope ["blocks", "onward", "part"] ["blocks"] (defScope s_next_parts) := ⟨rfl, rfl, rfl, by decide +kernel, rfl, by decide +kernel, by decide +kernel⟩
noncomputable abbrev s_law_cell_at : Stmt := top 10
theorem sc_law_cell_at : FnScope ["_law_script", "_law_k"] ["_law_script", "_law_k"] (defScope s_law_cell_at) := ⟨rfl, rfl, rfl, by decide +kernel, rfl, by decide +kernel, by decide +kernel⟩
noncomputable abbrev s_law_stream : Stmt := top 11
theorem sc_law_stream : FnScope ["_law_cell", "_law_many", "_law_found", "_law_number", "_law_k"] ["_law_cell", "_law_many"] (defScope s_law_stream) := ⟨rfl, rfl, rfl, by decide +kernel, rfl, by decide +kernel, by decide +kernel⟩
noncomputable abbrev s_law_names : Stmt := top 12
theorem sc_law_names : FnScope ["_law_cell", "_law_many", "_law_letters", "_law_ahead_here", "_law_behind", "_law_k"] ["_law_cell", "_law_many"] (defScope s_law_names) := ⟨rfl, rfl, rfl, by decide +kernel, rfl, by decide +kernel, by decide +kernel⟩
noncomputable abbrev s_law_sum : Stmt := top 13
theorem sc_law_sum : FnScope ["_law_owns", "_law_numbers", "_law_terms", "_law_k", "_law_number", "_law_thing", "_law_sign"] ["_law_owns", "_law_numbers"] (defScope s_law_sum) := ⟨rfl, rfl, rfl, by decide +kernel, rfl, by decide +kernel, by decide +kernel⟩
noncomputable abbrev s_law_row : Stmt := top 14
theorem sc_law_row : FnScope ["_law_kind", "_law_numbers", "_law_other", "_law_owns", "_law_own", "_law_when"] ["_law_kind", "_law_numbers", "_law_other", "_law_owns", "_law_own"] (defScope s_law_row) := ⟨rfl, rfl, rfl, by decide +kernel, rfl, by decide +kernel, by decide +kernel⟩
noncomputable abbrev s_law_blocks : Stmt := top 15
theorem sc_law_blocks : FnScope ["_law_cell", "_law_cells", "_law_many", "_law_names_here", "_law_drawn", "_law_owns", "_law_blocks_here", "_law_made_here", "_law_numbers", "_law_at", "_law_kind", "_law_own", "_law_other"] ["_law_cell", "_law_cells"] (defScope s_law_blocks) := ⟨rfl, rfl, rfl, by decide +kernel, rfl, by decide +kernel, by decide +kernel⟩
noncomputable abbrev s_law_there : Stmt := top 16
theorem sc_law_there : FnScope ["_law_names_here", "_law_blocks_here", "_law_root", "_law_words", "_law_there_here", "_law_at", "_law_row_here"] ["_law_names_here", "_law_blocks_here", "_law_root", "_law_words"] (defScope s_law_there) := ⟨rfl, rfl, rfl, by decide +kernel, rfl, by decide +kernel, by decide +kernel⟩
noncomputable abbrev s_law_roots : Stmt := top 17
theorem sc_law_roots : FnScope ["_law_names_here", "_law_blocks_here", "_law_cell", "_law_found", "_law_asked", "_law_rows_here", "_law_row_here", "_law_name", "_law_there_here", "_law_root"] ["_law_names_here", "_law_blocks_here", "_law_cell"] (defScope s_law_roots) := ⟨rfl, rfl, rfl, by decide +kernel, rfl, by decide +kernel, by decide +kernel⟩
noncomputable abbrev s_law_made : Stmt := top 18
theorem sc_law_made : FnScope ["_law_names_here", "_law_blocks_here", "_law_cell", "_law_lies", "_law_k", "_law_packs", "_law_origins", "_law_loads", "_law_root", "_law_there_here", "_law_numbers"] ["_law_names_here", "_law_blocks_here", "_law_cell"] (defScope s_law_made) := ⟨rfl, rfl, rfl, by decide +kernel, rfl, by decide +kernel, by decide +kernel⟩
noncomputable abbrev s_law_rows : Stmt := top 19
theorem sc_law_rows : FnScope ["_law_names_here", "_law_made_here", "_law_part", "_law_due", "_law_pack", "_law_inside", "_law_number", "_law_row_here"] ["_law_names_here", "_law_made_here", "_law_part"] (defScope s_law_rows) := ⟨rfl, rfl, rfl, by decide +kernel, rfl, by decide +kernel, by decide +kernel⟩
noncomputable abbrev s_law_firsts : Stmt := top 20
theorem sc_law_firsts : FnScope ["_law_numbers", "_law_found", "_law_number"] ["_law_numbers"] (defScope s_law_firsts) := ⟨rfl, rfl, rfl, by decide +kernel, rfl, by decide +kernel, by decide +kernel⟩
noncomputable abbrev s_law_ahead : Stmt := top 21
theorem sc_law_ahead : FnScope ["_law_names_here", "_law_blocks_here", "_law_made_here", "_law_root", "_law_there_here", "_law_found", "_law_name", "_law_numbers"] ["_law_names_here", "_law_blocks_here", "_law_made_here", "_law_root"] (defScope s_law_ahead) := ⟨rfl, rfl, rfl, by decide +kernel, rfl, by decide +kernel, by decide +kernel⟩
noncomputable abbrev s_law_right : Stmt := top 22
theorem sc_law_right : FnScope ["_law_walk", "_law_names_here", "_law_blocks_here", "_law_made_here", "_law_ahead_here", "_law_wanted", "_law_name", "_law_numbers", "_law_rows_here", "_law_due"] ["_law_walk", "_law_names_here", "_law_blocks_here", "_law_made_here", "_law_ahead_here"] (defScope s_law_right) := ⟨rfl, rfl, rfl, by decide +kernel, rfl, by decide +kernel, by decide +kernel⟩
noncomputable abbrev s_law : Stmt := top 23
theorem sc_law : FnScope ["_law_script", "_law_names_here", "_law_blocks_here", "_law_made_here", "_law_some", "_law_beside", "_law_other", "_law_ahead_here", "_law_walk", "_law_plain", "_law_second"] ["_law_script"] (defScope s_law) := ⟨rfl, rfl, rfl, by decide +kernel, rfl, by decide +kernel, by decide +kernel⟩
structure Txt (K : PySem.W.Frag) (mg : Str → Option Value) : Prop where
  n_len : mg "len" = none
  n_range : mg "range" = none
  n_str : mg "str" = none
  n_tuple : mg "tuple" = none
  n_list : mg "list" = none
  n_dict : mg "dict" = none
  n_enumerate : mg "enumerate" = none
  n_isinstance : mg "isinstance" = none
  n_max : mg "max" = none
  n_sorted : mg "sorted" = none
  d_spread : HasDef K mg "spread" s_spread
  d_blocks_in : HasDef K mg "blocks_in" s_blocks_in
  d_next_parts : HasDef K mg "next_parts" s_next_parts
  d_law_cell_at : HasDef K mg "_law_cell_at" s_law_cell_at
  d_law_stream : HasDef K mg "_law_stream" s_law_stream
  d_law_names : HasDef K mg "_law_names" s_law_names
  d_law_sum : HasDef K mg "_law_sum" s_law_sum
  d_law_row : HasDef K mg "_law_row" s_law_row
  d_law_blocks : HasDef K mg "_law_blocks" s_law_blocks
  d_law_there : HasDef K mg "_law_there" s_law_there
  d_law_roots : HasDef K mg "_law_roots" s_law_roots
  d_law_made : HasDef K mg "_law_made" s_law_made
  d_law_rows : HasDef K mg "_law_rows" s_law_rows
  d_law_firsts : HasDef K mg "_law_firsts" s_law_firsts
  d_law_ahead : HasDef K mg "_law_ahead" s_law_ahead
  d_law_right : HasDef K mg "_law_right" s_law_right
structure Tc (K : PySem.W.Frag) (mg : Str → Option Value) (CP CW : Addr) : Prop extends Txt K mg where
  c_PacksWalk : Cls K CP
  g_PacksWalk : mg "PacksWalk" = some (.ref CP)
  g_Walk : mg "Walk" = some (.ref CW)
  nP_blocks : NoAttr K CP "blocks"
  nP_loads : NoAttr K CP "loads"
  nP_ahead : NoAttr K CP "ahead"
  m_rows_of : HasM K CP "rows_of" "PacksWalk.rows_of" s_PacksWalk_rows_of
  m_key_of : HasM K CP "key_of" "Walk.key_of" s_Walk_key_of
  m_loads_of : HasM K CP "loads_of" "PacksWalk.loads_of" s_PacksWalk_loads_of
  m_ahead_of : HasM K CP "ahead_of" "PacksWalk.ahead_of" s_PacksWalk_ahead_of
  i_PacksWalk : HasID K CP "PacksWalk.__init__" s_PacksWalk___init__ (.bool false)
  oc_PacksWalk : OwnC K CP
  is_Walk : PySem.W.kitOne K (.ref CP) (.ref CW) = some true
section
variable {P : Program} {w : World} {K : PySem.W.Frag} {mg : Str → Option Value} {base : Heap} {CP CW : Addr}
theorem inV_strs (x : Str) : ∀ l : List Str, inV (.str x) (l.map V.str) = decide (x ∈ l)
  | [] => by simp [inV]
  | a :: r => by
    have ih := inV_strs x r
    unfold inV at ih ⊢
    rw [List.map_cons, List.any_cons, ih]
    by_cases e : a = x
    · subst e; simp [eqV]
    · have h2 : ¬ x = a := fun z => e z.symm
      simp [eqV, e, h2]
noncomputable def spLaw (K : PySem.W.Frag) : Sp := fun vs H Q _ => ∃ (a : Addr) (ns : List Int), vs = [.ref a] ∧ SqL K H a (ns.map V.int) ∧ ns.length ≤ 63 ∧ ∀ H', Q (.bl true) H'
theorem nodup_lenG {α : Type} [DecidableEq α] : ∀ (l N : List α), l.Nodup → (∀ x ∈ l, x ∈ N) → l.length ≤ N.length
  | [], N, _, _ => Nat.zero_le _
  | a :: r, N, hn, hs => by
    rw [List.nodup_cons] at hn
    have ha : a ∈ N := hs a List.mem_cons_self
    have h1 := nodup_lenG r (N.erase a) hn.2 fun x hx => (List.mem_erase_of_ne (fun z => hn.1 (by rw [← z]; exact hx))).mpr (hs x (List.mem_cons_of_mem _ hx))
    rw [List.length_erase_of_mem ha] at h1
    have : 0 < N.length := List.length_pos_of_mem ha
    simp only [List.length_cons]; omega
theorem setD_val (l : List Str) (x : Str) : valV (setD l) (Sum.inr x) = if x ∈ l then some (.bl true) else none := by
  induction l with
  | nil => rfl
  | cons a r ih =>
    have e : setD (a :: r) = (Sum.inr a, .bl true) :: setD r := rfl
    rw [e]
    by_cases h : a = x
    · subst h
      rw [valV_pos rfl, if_pos List.mem_cons_self]
    · rw [valV_neg (fun z => h (Sum.inr.inj z)), ih]
      by_cases hm : x ∈ r
      · rw [if_pos hm, if_pos (List.mem_cons_of_mem _ hm)]
      · rw [if_neg hm, if_neg (fun z => by rcases List.mem_cons.mp z with y | y; exact h y.symm; exact hm y)]
theorem setD_some (l : List Str) (x : Str) : (valV (setD l) (Sum.inr x)).isSome = decide (x ∈ l) := by
  rw [setD_val]
  by_cases h : x ∈ l
  · rw [if_pos h, decide_eq_true h]; rfl
  · rw [if_neg h, decide_eq_false h]; rfl
theorem addN_mem (l : List Str) (x y : Str) : y ∈ addN l x ↔ y ∈ l ∨ y = x := by
  unfold addN
  by_cases h : x ∈ l
  · rw [if_pos h]
    exact ⟨.inl, fun z => by rcases z with z | z; exact z; rw [z]; exact h⟩
  · rw [if_neg h, List.mem_append, List.mem_singleton]
theorem g_while {c : TT} {tb R : TS} {D : Ends} {N : L2.St → Hp → Prop} {i : Nat} {v : V} {σ : L2.St} {H : Hp} (e : N = tSeq (tWhile c tb) R D) (h : tWhile c tb { D with nx := R D } (σ.set i (some v)) H) : gName i v σ H N := by
  show N (σ.set i (some v)) H
  rw [e]
  exact h
theorem nodup_len : ∀ (l N : List Str), l.Nodup → (∀ x ∈ l, x ∈ N) → l.length ≤ N.length
  | [], N, _, _ => Nat.zero_le _
  | a :: r, N, hn, hs => by
    rw [List.nodup_cons] at hn
    have ha : a ∈ N := hs a List.mem_cons_self
    have h1 := nodup_len r (N.erase a) hn.2 fun x hx => (List.mem_erase_of_ne (fun z => hn.1 (by rw [← z]; exact hx))).mpr (hs x (List.mem_cons_of_mem _ hx))
    rw [List.length_erase_of_mem ha] at h1
    have : 0 < N.length := List.length_pos_of_mem ha
    simp only [List.length_cons]; omega
theorem addN_nodup {l : List Str} (h : l.Nodup) (x : Str) : (addN l x).Nodup := by
  unfold addN
  by_cases hx : x ∈ l
  · rw [if_pos hx]; exact h
  · rw [if_neg hx]
    refine List.nodup_append.mpr ⟨h, by simp, fun a ha b hb z => ?_⟩
    rw [List.mem_singleton.mp hb] at z
    exact hx (by rw [← z]; exact ha)
inductive Rch (E : Str → Str → Prop) (S : List Str) : Str → Prop where
  | base {n : Str} : n ∈ S → Rch E S n
  | step {n m : Str} : Rch E S n → E n m → Rch E S m
theorem Rch.of {E : Str → Str → Prop} {S : List Str} {l : List Str} (h1 : ∀ n ∈ S, n ∈ l) (h2 : ∀ n ∈ l, ∀ m, E n m → m ∈ l) {n : Str} (h : Rch E S n) : n ∈ l := by
  induction h with
  | base h => exact h1 _ h
  | step _ e ih => exact h2 _ ih _ e
theorem foldP_snoc (qs : List (Str × V)) (q : Str × V) : foldP (qs ++ [q]) [] = putK (foldP qs []) (Sum.inr q.1) q.2 := by
  unfold foldP; rw [List.foldl_append]; rfl
theorem foldP_len : ∀ (qs : List (Str × V)) (m : List (Key × V)), (foldP qs m).length ≤ m.length + qs.length
  | [], m => by simp [foldP]
  | q :: r, m => by
    have h := foldP_len r (putK m (Sum.inr q.1) q.2)
    have h2 : (putK m (Sum.inr q.1) q.2).length ≤ m.length + 1 := by
      unfold putK
      split
      · rw [List.length_map]; omega
      · rw [List.length_append]; simp
    show (foldP r (putK m (Sum.inr q.1) q.2)).length ≤ _
    simp only [List.length_cons]; omega
theorem DGet.kr {H : Hp} {a : Addr} {kvs : List (Key × V)} {k : Key} (e : Rd H a (.dK kvs)) : DGet H a (kV k) (valV kvs k) := .inl ⟨kvs, k, e, rfl, rfl⟩
theorem Rd.same {H H' : Hp} {a : Addr} {u : HO} (s : Same H H') (h : Rd H a u) : Rd H' a u := by
  rcases h with h | ⟨o, h⟩
  · exact .inl (s _ _ h)
  · exact .inr ⟨o, s _ _ h⟩
noncomputable def spSpread : Sp := fun vs H Q _ => ∃ (d t : Addr) (kvs : List (Key × V)) (S N : List Str) (g : Str → List Str), vs = [.ref d, .ref t] ∧ Rd H d (.dK kvs) ∧ H t = some (.tup (S.map V.str)) ∧ (∀ n ∈ N, ∃ u, valV kvs (Sum.inr n) = some (.ref u) ∧ (H u = some (.lst ((g n).map V.str)) ∨ H u = some (.tup ((g n).map V.str)))) ∧ (∀ n ∈ S, n ∈ N) ∧ (∀ n ∈ N, ∀ m ∈ g n, m ∈ N) ∧ (∀ n ∈ N, (g n).length ≤ 2000) ∧ S.length ≤ 100 ∧ N.length ≤ 50 ∧
  ∀ (f : Addr) (l : List Str) (H' : Hp), Same H H' → H' f = some (.dK (setD l)) → (∀ n, n ∈ l ↔ Rch (fun a b => b ∈ g a) S n) → Q (.ref f) H'
noncomputable def muS (f wl : Addr) (H : Hp) : Nat := match H f, H wl with
  | some (.dK kvs), some (.lst W) => (50 - kvs.length) * 2001 + W.length
  | _, _ => 0
theorem muS_eq {f wl : Addr} {H : Hp} {l W : List Str} (h1 : H f = some (.dK (setD l))) (h2 : H wl = some (.lst (W.map V.str))) : muS f wl H = (50 - l.length) * 2001 + W.length := by
  unfold muS
  rw [h1, h2]
  simp only [setD_len, List.length_map]
theorem strs_drop (W : List Str) : (W.map V.str).dropLast = W.dropLast.map V.str := by
  rw [List.map_dropLast]
theorem ok_spread (T : Txt K mg) : L2.Cl P w K mg base 1 "spread" ["onward", "some"] spSpread := by
  refine Cl.of T.d_spread sc_spread (fun vs H Q E h => ?_) (fun _ _ _ _ _ _ us hl => by obtain ⟨a, b, rfl⟩ := len2 hl; rfl) (fun fa cdv A outer s H vs Q E hr h => ?_)
  · obtain ⟨d, t, kvs, S, N, g, rfl, _⟩ := h
    rfl
  · obtain ⟨d, t, kvs, S, N, g, rfl, hd, ht, hg, hSN, hgN, hg100, hS100, hN, q⟩ := h
    have hu := hu_of hr
    refine ⟨_, (pss_cons (ps_set (i := 2) sc_spread.nd rfl (Or.inl rfl) pe_dnewK)
      (pss_cons (ps_set (i := 3) sc_spread.nd rfl (Or.inl rfl) (pe_callTy call_list_of (by rfl) T.n_list boot_list (pa_cons (pv 1) pa_nil)))
      (pss_cons (ps_while PassesOwn.never (pt_truth (pv 3) (fun _ => rfl))
        (pss_cons (ps_set (i := 4) sc_spread.nd rfl (Or.inl rfl) (pe_bm0 PySem.F.plainAttrs_list PySem.F.slot_list_pop PySem.F.type_list_pop mt_pop (pv 3)))
        (pss_one (ps_if (pt_cmp (pc_dnotin hu (pv 4) (pv 2)))
          (pss_cons (ps_dput hu (pv 2) (pv 4) pe_bl rfl)
          (pss_one (ps_expr (pe_bm PySem.F.plainAttrs_list PySem.F.slot_list_extend PySem.F.type_list_extend mt_extend (pv 3) (pa_cons (pe_callTy call_list_of (by rfl) T.n_list boot_list (pa_cons (pe_dget hu (pv 0) (pv 4) (fun _ _ => rfl)) pa_nil)) pa_nil))))) pss_nil))))
      (pss_one (ps_ret (pv 2)))))), ?_⟩
    intro f gf
    have s1 : Same H (upd H f (.dK [])) := (Same.refl H).new gf
    refine ⟨_, rfl, t, _, rfl, .inr (SqT.of (s1 _ _ ht)), fun wl gw => ?_⟩
    have s2 : Same H (upd (upd H f (.dK [])) wl (.lst (S.map V.str))) := s1.new gw
    have hfw : f ≠ wl := ne_of_none (upd_same (H := H) (a := f) (o := .dK [])) gw
    have gwH : H wl = none := s1.free gw
    apply g_while
    · with_reducible_and_instances rfl
    refine while_by (fun σ H2 => ∃ (l W : List Str) (v4 : Option V), σ = [some (.ref d), some (.ref t), some (.ref f), some (.ref wl), v4] ∧ Same H H2 ∧ H2 f = some (.dK (setD l)) ∧ H2 wl = some (.lst (W.map V.str)) ∧ l.Nodup ∧ (∀ n ∈ l, n ∈ N) ∧ (∀ n ∈ W, n ∈ N) ∧ (∀ n ∈ l, Rch (fun a b => b ∈ g a) S n) ∧ (∀ n ∈ W, Rch (fun a b => b ∈ g a) S n) ∧ (∀ n ∈ S, n ∈ l ∨ n ∈ W) ∧ (∀ n ∈ l, ∀ m ∈ g n, m ∈ l ∨ m ∈ W) ∧ W.length + (50 - l.length) * 2001 ≤ 100200) (fun _ H2 => muS f wl H2)
      ⟨[], S, none, rfl, s2, by rw [upd_ne hfw, upd_same]; rfl, upd_same, List.nodup_nil, fun n hn => by simp at hn, hSN, fun n hn => by simp at hn, fun n hn => .base hn, fun n hn => .inr hn, fun n hn => by simp at hn, by simp only [List.length_nil]; omega⟩ ?_ ?_
    · rintro σ H2 ⟨l, W, v4, rfl, s3, hf, hw, hnd, hlN, hWN, hlR, hWR, hSl, hcl, hbd⟩
      refine ⟨_, rfl, _, .inl ⟨_, SqL.of hw, rfl⟩, ?_⟩
      have hll := nodup_len l N hnd hlN
      cases hW : W.getLast? with
      | none =>
        have hWe : W = [] := List.getLast?_eq_none_iff.mp hW
        subst hWe
        refine iteF ?_
        refine ⟨_, rfl, q f l H2 s3 hf fun n => ⟨hlR n, fun hr' => ?_⟩⟩
        refine Rch.of (fun n hn => ?_) (fun n hn m hm => ?_) hr'
        · rcases hSl n hn with z | z
          · exact z
          · simp at z
        · rcases hcl n hn m hm with z | z
          · exact z
          · simp at z
      | some x =>
        have hne : W ≠ [] := fun z => by rw [z] at hW; simp at hW
        have hWd : W = W.dropLast ++ [x] := by
          obtain ⟨ys, hys⟩ := List.getLast?_eq_some_iff.mp hW
          rw [hys, List.dropLast_concat]
        have hxW : x ∈ W := by rw [hWd]; simp
        have hpos : 0 < W.length := List.length_pos_of_mem hxW
        rw [show (!(W.map V.str).isEmpty) = true by cases W with | nil => exact absurd rfl hne | cons _ _ => rfl]
        refine iteT ?_
        have hlast : (W.map V.str)[(W.map V.str).length - 1]? = some (.str x) := by
          rw [List.getElem?_map, List.length_map, ← List.getLast?_eq_getElem?, hW]; rfl
        refine ⟨_, rfl, .inl ⟨rfl, _, SqL.of hw⟩, wl, _, _, rfl, rfl, hw, hlast, ?_⟩
        rw [strs_drop]
        have s4 : Same H (upd H2 wl (.lst (W.dropLast.map V.str))) := s3.put gwH
        have hf4 : upd H2 wl (.lst (W.dropLast.map V.str)) f = some (.dK (setD l)) := by rw [upd_ne hfw]; exact hf
        have hw4 : upd H2 wl (.lst (W.dropLast.map V.str)) wl = some (.lst (W.dropLast.map V.str)) := upd_same
        have hmu := muS_eq hf hw
        generalize upd H2 wl (.lst (W.dropLast.map V.str)) = H4 at s4 hf4 hw4 ⊢
        have hdl : W.dropLast.length = W.length - 1 := List.length_dropLast
        have hmemW : ∀ n, n ∈ W ↔ n ∈ W.dropLast ∨ n = x := fun n => by
          conv => lhs; rw [hWd]
          rw [List.mem_append, List.mem_singleton]
        refine ⟨_, rfl, _, rfl, f, _, rfl, DGet.k (k := Sum.inr x) hf4, ?_⟩
        refine ⟨_, rfl, ?_⟩
        rw [setD_some]
        by_cases hx : x ∈ l
        · rw [decide_eq_true hx]
          refine iteF ?_
          refine ⟨⟨l, W.dropLast, _, rfl, s4, hf4, hw4, hnd, hlN, fun n hn => hWN n ((hmemW n).mpr (.inl hn)), hlR, fun n hn => hWR n ((hmemW n).mpr (.inl hn)), fun n hn => ?_, fun n hn m hm => ?_, by omega⟩, ?_⟩
          · rcases hSl n hn with z | z
            · exact .inl z
            · rcases (hmemW n).mp z with y | y
              · exact .inr y
              · rw [y]; exact .inl hx
          · rcases hcl n hn m hm with z | z
            · exact .inl z
            · rcases (hmemW m).mp z with y | y
              · exact .inr y
              · rw [y]; exact .inl hx
          · show muS f wl H4 < muS f wl H2
            rw [muS_eq hf4 hw4, hmu]
            omega
        · rw [decide_eq_false hx]
          refine iteT ?_
          have hlen1 : l.length ≤ 50 := by omega
          have hxN : x ∈ N := hWN x hxW
          have hadd : addN l x = l ++ [x] := by unfold addN; rw [if_neg hx]
          have hnd' : (addN l x).Nodup := addN_nodup hnd x
          have hlN' : ∀ n ∈ addN l x, n ∈ N := fun n hn => by
            rcases (addN_mem l x n).mp hn with z | z
            · exact hlN n z
            · rw [z]; exact hxN
          have hll' := nodup_len _ N hnd' hlN'
          rw [hadd, List.length_append, List.length_singleton] at hll'
          refine ⟨_, rfl, _, rfl, f, _, rfl, DPut.k (k := Sum.inr x) hf4 (small1000 (by rw [setD_len]; omega)), ?_⟩
          rw [setD_put]
          have s5 : Same H (upd H4 f (.dK (setD (addN l x)))) := s4.put gf
          have hf5 : upd H4 f (.dK (setD (addN l x))) f = some (.dK (setD (addN l x))) := upd_same
          have hw5 : upd H4 f (.dK (setD (addN l x))) wl = some (.lst (W.dropLast.map V.str)) := by rw [upd_ne hfw.symm]; exact hw4
          generalize upd H4 f (.dK (setD (addN l x))) = H5 at s5 hf5 hw5 ⊢
          obtain ⟨u, hvu, hut⟩ := hg x hxN
          have hvd : DGet H5 d (.str x) (some (.ref u)) := by
            have := DGet.kr (k := Sum.inr x) (Rd.same s5 hd)
            rw [hvu] at this
            exact this
          refine ⟨_, rfl, .inl ⟨rfl, _, SqL.of hw5⟩, _, rfl, _, rfl, d, _, rfl, hvd, u, _, rfl, (hut.imp (fun z => SqL.of (s5 _ _ z)) fun z => SqT.of (s5 _ _ z)), fun c gc => ?_⟩
          have hwc : wl ≠ c := fun z => by rw [z, gc] at hw5; cases hw5
          have hfc : f ≠ c := fun z => by rw [z, gc] at hf5; cases hf5
          have h100 := hg100 x hxN
          refine ⟨wl, c, _, _, rfl, rfl, upd_keep hw5 gc, upd_same, Nat.le_of_lt (by
            have : sizeLine = 16777216 := sizeLine_eq
            rw [List.length_map, List.length_map]; omega), ?_⟩
          rw [← List.map_append]
          have s6 : Same H (upd (upd H5 c (.lst ((g x).map V.str))) wl (.lst ((W.dropLast ++ g x).map V.str))) := (s5.new gc).put gwH
          have hf6 : upd (upd H5 c (.lst ((g x).map V.str))) wl (.lst ((W.dropLast ++ g x).map V.str)) f = some (.dK (setD (addN l x))) := by rw [upd_ne hfw, upd_ne hfc]; exact hf5
          refine ⟨⟨addN l x, W.dropLast ++ g x, _, rfl, s6, hf6, upd_same, hnd', hlN', fun n hn => ?_, fun n hn => ?_, fun n hn => ?_, fun n hn => ?_, fun n hn m hm => ?_, ?_⟩, ?_⟩
          · rcases List.mem_append.mp hn with z | z
            · exact hWN n ((hmemW n).mpr (.inl z))
            · exact hgN x hxN n z
          · rcases (addN_mem l x n).mp hn with z | z
            · exact hlR n z
            · rw [z]; exact hWR x hxW
          · rcases List.mem_append.mp hn with z | z
            · exact hWR n ((hmemW n).mpr (.inl z))
            · exact .step (hWR x hxW) z
          · rcases hSl n hn with z | z
            · exact .inl ((addN_mem l x n).mpr (.inl z))
            · rcases (hmemW n).mp z with y | y
              · exact .inr (List.mem_append_left _ y)
              · exact .inl ((addN_mem l x n).mpr (.inr y))
          · rcases (addN_mem l x n).mp hn with z | z
            · rcases hcl n z m hm with y | y
              · exact .inl ((addN_mem l x m).mpr (.inl y))
              · rcases (hmemW m).mp y with c' | c'
                · exact .inr (List.mem_append_left _ c')
                · exact .inl ((addN_mem l x m).mpr (.inr c'))
            · subst z
              exact .inr (List.mem_append_right _ hm)
          · rw [hadd, List.length_append, List.length_append, List.length_singleton]; omega
          · show muS f wl _ < muS f wl H2
            rw [muS_eq hf6 upd_same, hmu, hadd, List.length_append, List.length_append, List.length_singleton]
            omega
    · rintro σ H2 Q1 Q2 hQ ⟨v, e, b, hb, hq⟩
      exact ⟨v, e, b, hb, hQ _ _ hq⟩
theorem putK_fresh {κ : Type} [DecidableEq κ] {kvs : List (κ × V)} {k : κ} {v : V} (h : k ∉ kvs.map (·.1)) : putK kvs k v = kvs ++ [(k, v)] := by
  unfold putK
  rw [if_neg]
  intro z
  obtain ⟨p, hp, e⟩ := List.any_eq_true.mp z
  exact h (by rw [← of_decide_eq_true e]; exact List.mem_map_of_mem (f := (·.1)) hp)
noncomputable def But (d : Addr) (H H' : Hp) : Prop := ∀ a o, a ≠ d → H a = some o → H' a = some o
noncomputable def bkv (qs : List (Str × Addr)) : List (Key × V) := qs.map fun q => (Sum.inr q.1, V.ref q.2)
theorem bkv_snoc (qs : List (Str × Addr)) (q : Str × Addr) : bkv (qs ++ [q]) = bkv qs ++ [(Sum.inr q.1, .ref q.2)] := by unfold bkv; rw [List.map_append]; rfl
theorem bkv_val : ∀ {qs : List (Str × Addr)} {m : Str} {c : Addr}, (qs.map (·.1)).Nodup → (m, c) ∈ qs → valV (bkv qs) (Sum.inr m) = some (.ref c)
  | [], m, c, _, h => by simp at h
  | q :: r, m, c, hn, h => by
    rw [List.map_cons, List.nodup_cons] at hn
    have e : bkv (q :: r) = (Sum.inr q.1, V.ref q.2) :: bkv r := rfl
    rw [e]
    rcases List.mem_cons.mp h with z | z
    · rw [← z]
      exact valV_pos rfl
    · rw [valV_neg (fun y => hn.1 (by rw [Sum.inr.inj y]; exact List.mem_map_of_mem (f := (·.1)) z))]
      exact bkv_val hn.2 z
noncomputable def spCell (K : PySem.W.Frag) : Sp := fun vs H Q _ => ∃ (a : Addr) (ns : List Int) (k : Int), vs = [.ref a, .int k] ∧ SqL K H a (ns.map V.int) ∧ 0 ≤ k ∧ ∀ c : Int, Q (.int c) H
theorem ok_cell (T : Txt K mg) : L2.Cl P w K mg base 1 "_law_cell_at" ["_law_script", "_law_k"] (spCell K) := by
  refine Cl.of T.d_law_cell_at sc_law_cell_at (fun vs H Q E h => ?_) (fun _ _ _ _ _ _ us hl => by obtain ⟨a, b, rfl⟩ := len2 hl; rfl) (fun f cdv A outer s H vs Q E hr h => ?_)
  · obtain ⟨a, ns, k, rfl, _⟩ := h
    rfl
  · obtain ⟨a, ns, k, rfl, hS, hk, q⟩ := h
    refine ⟨_, (pss_cons (ps_if (pt_cmpR op_lt (pv 1) (pe_callB call_len_seq (by rfl) T.n_len PySem.boot_len (pa_cons (pv 0) pa_nil)) (nomark _))
        (pss_one (ps_ret (pe_ix ix_list (pv 0) (pv 1) (fun _ _ => rfl)))) pss_nil)
      (pss_one (ps_ret pe_int))), ?_⟩
    refine ⟨_, rfl, _, rfl, a, _, rfl, .inl hS, _, _, rfl, rfl, _, rfl, ?_⟩
    refine ite2 (fun hlt => ?_) (fun hlt => ?_)
    · have hlt' : k < (ns.length : Int) := by simpa using hlt
      refine ⟨_, rfl, _, rfl, a, _, _, _, rfl, rfl, hS, atI_map V.int ns 0 hk hlt', ?_⟩
      exact q _
    · exact q 0
theorem call_tuple_ofF {X : Cx} : CallR X (.type "tuple") (fun xs H Q => ∃ p ys, xs = [.ref p] ∧ SqL X.K H p ys ∧ ∀ l o, H l = none → o.dict = none → Q (.ref l) (upd H l (.frz o (.tup ys)))) := by
  intro pins s σ H xs us Q I r h
  obtain ⟨p, ys, rfl, hq, q⟩ := h
  obtain ⟨u, rfl, rx⟩ := vals1 r
  cases rx
  obtain ⟨its, r', pl, hz⟩ := I.list hq
  have hlen := r'.length
  refine call_tuple_list pl.isList (fun h' kp => ?_) (by simp only [List.size_toArray] <;> omega)
  have I1 : Inv X pins σ H { s with heap := h' } := I.kept (t' := s.toks) kp
  have I2 : Inv X pins σ (upd H h'.objs.size (.frz { cls := .type "tuple", data := .seq its.toArray } (.tup ys))) { s with heap := h'.push { cls := .type "tuple", data := .seq its.toArray } } :=
    I1.laid (t' := s.toks) (fun b o e => Heap.get?_push_of_some _ e) (Nat.le_refl _) ⟨Heap.get?_push_size _ rfl, hz, its, r', ⟨_, Heap.get?_push_size _ rfl, rfl, _, rfl⟩⟩
  exact ⟨.ref h'.objs.size, _, I2, rfl, q _ _ (I1.hok.fresh (Nat.le_refl _)) rfl⟩
structure Rk where
  a : Addr
  k : Str
  t : Option Str
noncomputable def RkAt (ns : List Str) (H : Hp) (r : Rk) : Prop := ∃ y tl, H r.a = some (.tup (.str r.k :: y :: tl)) ∧ r.k ≠ "part" ∧ ((r.k = "do" ∨ r.k = "ask") → ∃ m ∈ ns, r.t = some m ∧ y = .str m)
theorem RkAt.mono {ns : List Str} {H H' : Hp} (s : Tups H H') {r : Rk} (h : RkAt ns H r) : RkAt ns H' r := by
  obtain ⟨y, tl, h1, h2⟩ := h
  exact ⟨y, tl, s _ _ h1, h2⟩
inductive Ro where
  | part (n : Str)
  | row (r : Rk)
noncomputable def RoAt (ns : List Str) (H : Hp) (v : V) : Ro → Prop
  | .part n => ∃ a, v = .ref a ∧ H a = some (.tup [.str "part", .str n])
  | .row r => v = .ref r.a ∧ RkAt ns H r
theorem RoAt.mono {ns : List Str} {H H' : Hp} (s : Tups H H') {v : V} {o : Ro} (h : RoAt ns H v o) : RoAt ns H' v o := by
  cases o with
  | part n =>
    obtain ⟨a, h1, h2⟩ := h
    exact ⟨a, h1, s _ _ h2⟩
  | row r => exact ⟨h.1, h.2.mono s⟩
noncomputable def tag : Str → Nat → List Ro → List (Str × Nat × Rk)
  | _, _, [] => []
  | _, i, .part n :: t => tag n (i + 1) t
  | c, i, .row r :: t => (c, i, r) :: tag c (i + 1) t
noncomputable def cur : Str → List Ro → Str
  | c, [] => c
  | _, .part n :: t => cur n t
  | c, .row _ :: t => cur c t
theorem tag_append : ∀ (A B : List Ro) (c : Str) (i : Nat), tag c i (A ++ B) = tag c i A ++ tag (cur c A) (i + A.length) B
  | [], B, c, i => by simp [tag, cur]
  | .part n :: t, B, c, i => by
    simp only [List.cons_append, tag, cur, List.length_cons]
    rw [tag_append t B n (i + 1), show i + 1 + t.length = i + (t.length + 1) by omega]
  | .row r :: t, B, c, i => by
    simp only [List.cons_append, tag, cur, List.length_cons]
    rw [tag_append t B c (i + 1), show i + 1 + t.length = i + (t.length + 1) by omega]
theorem cur_append : ∀ (A B : List Ro) (c : Str), cur c (A ++ B) = cur (cur c A) B
  | [], B, c => rfl
  | .part n :: t, B, c => cur_append t B n
  | .row r :: t, B, c => cur_append t B c
noncomputable def ptsOf (P : List Ro) : List Str := P.filterMap fun o => match o with | .part n => some n | .row _ => none
theorem ptsOf_append (A B : List Ro) : ptsOf (A ++ B) = ptsOf A ++ ptsOf B := List.filterMap_append
noncomputable def prsFrom (c : Str) (P : List Ro) : List (Str × Rk) := (tag c 0 P).map fun x => (x.1, x.2.2)
noncomputable def prs (P : List Ro) : List (Str × Rk) := prsFrom "" P
theorem tag_rows : ∀ (rs : List Rk) (c : Str) (i : Nat), (tag c i (rs.map Ro.row)).map (fun x => (x.1, x.2.2)) = rs.map fun r => (c, r)
  | [], _, _ => rfl
  | r :: t, c, i => by
    simp only [List.map_cons, tag]
    rw [tag_rows t c (i + 1)]
theorem prs_more (A : List Ro) (n : Str) (rs : List Rk) : prs (A ++ .part n :: rs.map Ro.row) = prs A ++ rs.map fun r => (n, r) := by
  unfold prs prsFrom
  rw [tag_append, List.map_append]
  simp only [tag]
  rw [tag_rows]
theorem pts_rows (rs : List Rk) : ptsOf (rs.map Ro.row) = [] := by
  induction rs with
  | nil => rfl
  | cons r t ih => exact ih
theorem pts_more (A : List Ro) (n : Str) (rs : List Rk) : ptsOf (A ++ .part n :: rs.map Ro.row) = ptsOf A ++ [n] := by
  rw [ptsOf_append]
  show ptsOf A ++ (n :: ptsOf (rs.map Ro.row)) = _
  rw [pts_rows]
noncomputable def tags : Nat → List (List Ro) → List (Str × Nat × Nat × Rk)
  | _, [] => []
  | j, P :: t => (tag "" 0 P).map (fun x => (x.1, j, x.2.1, x.2.2)) ++ tags (j + 1) t
theorem tags_snoc : ∀ (A : List (List Ro)) (P : List Ro) (j : Nat), tags j (A ++ [P]) = tags j A ++ (tag "" 0 P).map fun x => (x.1, j + A.length, x.2.1, x.2.2)
  | [], P, j => by simp [tags]
  | B :: t, P, j => by
    simp only [List.cons_append, tags, List.length_cons]
    rw [tags_snoc t P (j + 1), List.append_assoc, show j + 1 + t.length = j + (t.length + 1) by omega]
theorem tags_prs : ∀ (A : List (List Ro)) (j : Nat), (tags j A).map (fun x => (x.1, x.2.2.2)) = A.flatMap prs
  | [], _ => rfl
  | P :: t, j => by
    simp only [tags, List.map_append, List.map_map, List.flatMap_cons]
    rw [tags_prs t (j + 1)]
    rfl
theorem flat_set {α β : Type} {f : List α → List β} {E : List α} {e : List β} : ∀ (A : List (List α)) (l : Nat) (P : List α), A[l]? = some P → f (P ++ E) = f P ++ e → ((A.set l (P ++ E)).flatMap f).Perm (A.flatMap f ++ e)
  | [], l, P, h, _ => by simp at h
  | B :: t, 0, P, h, he => by
    simp only [List.getElem?_cons_zero, Option.some.injEq] at h
    subst h
    simp only [List.set_cons_zero, List.flatMap_cons, he]
    rw [List.append_assoc, List.append_assoc]
    exact List.Perm.append_left _ List.perm_append_comm
  | B :: t, l + 1, P, h, he => by
    simp only [List.getElem?_cons_succ] at h
    simp only [List.set_cons_succ, List.flatMap_cons]
    rw [List.append_assoc]
    exact List.Perm.append_left _ (flat_set t l P h he)
noncomputable def Ed (ws : List Str) (ns : List Str) (bs : List (List Rk)) (n m : Str) : Prop := ∃ (j : Nat) (rs : List Rk) (r : Rk), ns[j]? = some n ∧ bs[j]? = some rs ∧ r ∈ rs ∧ r.k ∈ ws ∧ r.t = some m
noncomputable def allR (ns : List Str) (bs : List (List Rk)) : List (Str × Rk) := (ns.zip bs).flatMap fun q : Str × List Rk => q.2.map fun r => (q.1, r)
theorem mem_allR {ns : List Str} {bs : List (List Rk)} {n : Str} {r : Rk} : (n, r) ∈ allR ns bs ↔ ∃ (j : Nat) (rs : List Rk), ns[j]? = some n ∧ bs[j]? = some rs ∧ r ∈ rs := by
  unfold allR
  rw [List.mem_flatMap]
  constructor
  · rintro ⟨⟨n', rs⟩, hq, hm⟩
    obtain ⟨r', hr, e⟩ := List.mem_map.mp hm
    cases e
    obtain ⟨j, hj⟩ := List.getElem?_of_mem hq
    rw [List.getElem?_zip_eq_some] at hj
    exact ⟨j, rs, hj.1, hj.2, hr⟩
  · rintro ⟨j, rs, h1, h2, h3⟩
    exact ⟨(n, rs), List.mem_of_getElem? (List.getElem?_zip_eq_some.mpr ⟨h1, h2⟩), List.mem_map.mpr ⟨r, h3, rfl⟩⟩
structure PkOk (ns : List Str) (bs : List (List Rk)) (packs : List (List Ro)) : Prop where
  hd : ∀ P ∈ packs, P = [] ∨ ∃ n t, P = .part n :: t
  pt : (packs.flatMap ptsOf).Perm ns
  pr : (packs.flatMap prs).Perm (allR ns bs)
noncomputable def hitsD (r : Rk) : Bool := decide (r.k = "do") || decide (r.k = "ask")
noncomputable def gTo (tg : List (Str × Nat × Nat × Rk)) (n : Str) : List Str := (tg.filter fun x => decide (x.1 = n)).filterMap fun x => if hitsD x.2.2.2 = true then x.2.2.2.t else none
theorem PkOk.to {ns : List Str} {bs : List (List Rk)} {packs : List (List Ro)} (h : PkOk ns bs packs) {ws : List Str} (hw : ∀ x, x ∈ ws ↔ x = "ask" ∨ x = "do") (n m : Str) : m ∈ gTo (tags 0 packs) n ↔ Ed ws ns bs n m := by
  have e1 : ∀ r : Rk, (n, r) ∈ (tags 0 packs).map (fun x => (x.1, x.2.2.2)) ↔ (n, r) ∈ allR ns bs := fun r => by
    rw [tags_prs]
    exact h.pr.mem_iff
  unfold gTo
  rw [List.mem_filterMap]
  constructor
  · rintro ⟨x, hx, e⟩
    rw [List.mem_filter] at hx
    have hn : x.1 = n := of_decide_eq_true hx.2
    split at e
    · rename_i hh
      have := (e1 x.2.2.2).mp (List.mem_map.mpr ⟨x, hx.1, by rw [hn]⟩)
      obtain ⟨j, rs, h1, h2, h3⟩ := mem_allR.mp this
      refine ⟨j, rs, x.2.2.2, h1, h2, h3, (hw _).mpr ?_, e⟩
      unfold hitsD at hh
      rw [Bool.or_eq_true, decide_eq_true_eq, decide_eq_true_eq] at hh
      exact hh.symm
    · cases e
  · rintro ⟨j, rs, r, h1, h2, h3, h4, h5⟩
    obtain ⟨x, hx, e⟩ := List.mem_map.mp ((e1 r).mpr (mem_allR.mpr ⟨j, rs, h1, h2, h3⟩))
    have e2 : x.1 = n := congrArg Prod.fst e
    have e3 : x.2.2.2 = r := congrArg Prod.snd e
    refine ⟨x, List.mem_filter.mpr ⟨hx, decide_eq_true e2⟩, ?_⟩
    have hh : hitsD x.2.2.2 = true := by
      rw [e3]
      unfold hitsD
      rw [Bool.or_eq_true, decide_eq_true_eq, decide_eq_true_eq]
      exact ((hw _).mp h4).symm
    rw [if_pos hh, e3, h5]
theorem to_g {X R : TS} {D : Ends} {r : VK} {b k : L2.St → Hp → Prop} {i : Nat} {v : V} {σ : L2.St} {H : Hp} (h : tSeq X R D (σ.set i (some v)) H) : gName i v σ H (Ends.nx ⟨tSeq X R D, r, b, k⟩) := h
theorem to_n {X R : TS} {D : Ends} {r : VK} {b k : L2.St → Hp → Prop} {σ : L2.St} {H : Hp} (h : tSeq X R D σ H) : tNext ⟨tSeq X R D, r, b, k⟩ σ H := h
theorem tand_pure {t u : TT} {σ : L2.St} {H : Hp} {a b : Bool} (ht : ∀ Q : Bool → Hp → Prop, Q a H → t σ H Q) (hu : ∀ Q : Bool → Hp → Prop, Q b H → u σ H Q) : ∀ Q : Bool → Hp → Prop, Q (a && b) H → tAnd t u σ H Q := fun Q h => by
  refine ht _ ?_
  cases a with
  | true => exact iteT (hu _ h)
  | false => exact iteF h
theorem seq_ifJ {t : TT} {B R : TS} {D : Ends} {σ : L2.St} {H : Hp} (C : Bool → Hp → Prop) (J : L2.St → Hp → Prop) (ht : ∀ Q : Bool → Hp → Prop, (∀ b H1, C b H1 → Q b H1) → t σ H Q) (h1 : ∀ H1, C true H1 → ∀ D' : Ends, (∀ σ' H', J σ' H' → D'.nx σ' H') → B D' σ H1) (h2 : ∀ H1, C false H1 → J σ H1) (hR : ∀ σ' H', J σ' H' → R D σ' H') : tSeq (tIfS t B tNext) R D σ H := by
  refine ht _ fun b H1 hc => ?_
  cases b with
  | true => exact iteT (h1 H1 hc _ fun σ' H' j => hR σ' H' j)
  | false => exact iteF (hR σ H1 (h2 H1 hc))
theorem if_endJ {t : TT} {B : TS} {D : Ends} {σ : L2.St} {H : Hp} (C : Bool → Hp → Prop) (ht : ∀ Q : Bool → Hp → Prop, (∀ b H1, C b H1 → Q b H1) → t σ H Q) (h1 : ∀ H1, C true H1 → B D σ H1) (h2 : ∀ H1, C false H1 → D.nx σ H1) : tIfS t B tNext D σ H := by
  refine ht _ fun b H1 hc => ?_
  cases b with
  | true => exact iteT (h1 H1 hc)
  | false => exact iteF (h2 H1 hc)
theorem tand_J {t u : TT} {σ : L2.St} {H : Hp} (C1 C : Bool → Hp → Prop) (ht : ∀ Q : Bool → Hp → Prop, (∀ b H1, C1 b H1 → Q b H1) → t σ H Q) (hu : ∀ H1, C1 true H1 → ∀ Q : Bool → Hp → Prop, (∀ b H2, C b H2 → Q b H2) → u σ H1 Q) (hf : ∀ H1, C1 false H1 → C false H1) : ∀ Q : Bool → Hp → Prop, (∀ b H1, C b H1 → Q b H1) → tAnd t u σ H Q := fun Q h => by
  refine ht _ fun b H1 hc => ?_
  cases b with
  | true => exact iteT (hu H1 hc Q h)
  | false => exact iteF (h false H1 (hf H1 hc))
theorem pe_bmK {X : Cx} {K : PySem.W.Frag} (hK : X.K = K) {o e : Expr} {es : List Expr} {to : TE} {t : TA} {name : Str} {apos cpos : Pos} {T id : String} {r : V → List V → Hp → VK → Prop} (pa : PlainAttrs T) (slot : Slot T name id) (hty : typeOf (.builtin id) = pure (.type "method_descriptor")) (hm : MtR X id r) (ho : PE X o to) (ha : PA X (e :: es) t)
    (hbase : attributeBase o name X.env (eval o X.env) = eval o X.env := by rfl)
    (hfew : ((backTo cpos (starEach (e :: es) X.env)).all (fun x => !x.1) && (backToKw cpos (keywordEach [] X.env)).all (fun x => x.1.isSome) && decide ((e :: es).length + ([] : List Keyword).length + (if ([] : List Keyword).isEmpty then 0 else 1) < 30)) = true := by rfl)
    (hline : (apos.endLine == cpos.line) = true := by rfl) (hs : starEach (e :: es) X.env = (false, eval e X.env) :: starEach es X.env := by rfl) (hplain : (backTo cpos (starEach es X.env)).any (·.1) = false := by rfl) :
    PE X (.Call (.Attribute o name apos) (e :: es) [] cpos) (tBM K T r to t) := by
  subst hK
  exact pe_bm pa slot hty hm ho ha hbase hfew hline hs hplain
theorem mt_indexK {X : Cx} {K : PySem.W.Frag} (h : X.K = K) : MtR X "list.index" (fun x vs H Q => ∃ (l : Addr) (ys : List Str) (w : Str) (j : Nat), x = .ref l ∧ vs = [.str w] ∧ SqL K H l (ys.map V.str) ∧ ys[j]? = some w ∧ (∀ i, i < j → ys[i]? ≠ some w) ∧ Q (.int (j : Int)) H) := h ▸ mt_index
theorem strs_flat : ∀ l : List Str, (l.map V.str).all flatV = true
  | [] => rfl
  | _ :: r => strs_flat r
theorem atI_strs {l : List Str} {i : Int} (h0 : 0 ≤ i) (h1 : i < (l.length : Int)) : ∃ x, x ∈ l ∧ atI (l.map V.str) i = some (.str x) := by
  obtain ⟨v, hv, e⟩ := atI_mem (l.map V.str) h0 (by rw [List.length_map]; exact h1)
  obtain ⟨x, hx, rfl⟩ := List.mem_map.mp hv
  exact ⟨x, hx, e⟩
noncomputable def BkAt (ns : List Str) (H : Hp) (v : V) (rs : List Rk) : Prop := ∃ b, v = .ref b ∧ H b = some (.lst (rs.map fun r => V.ref r.a)) ∧ ∀ r ∈ rs, RkAt ns H r
noncomputable def BksAt (ns : List Str) (H : Hp) (bl : Addr) (bs : List (List Rk)) : Prop := ∃ vs, H bl = some (.lst vs) ∧ Paired (BkAt ns H) vs bs ∧ bs.length = ns.length ∧ ∀ rs ∈ bs, rs.length ≤ 40
theorem BkAt.same {ns : List Str} {H H' : Hp} (s : Same H H') {v : V} {rs : List Rk} (h : BkAt ns H v rs) : BkAt ns H' v rs := by
  obtain ⟨b, h1, h2, h3⟩ := h
  exact ⟨b, h1, s _ _ h2, fun r hr => (h3 r hr).mono s.tups⟩
theorem BksAt.same {ns : List Str} {H H' : Hp} (s : Same H H') {bl : Addr} {bs : List (List Rk)} (h : BksAt ns H bl bs) : BksAt ns H' bl bs := by
  obtain ⟨vs, h1, h2, h3⟩ := h
  exact ⟨vs, s _ _ h1, Paired.mapP h2 fun _ _ z => z.same s, h3⟩
theorem first_at {ns : List Str} (hnd : ns.Nodup) {j : Nat} {x : Str} (h : ns[j]? = some x) : ∀ i, i < j → ns[i]? ≠ some x := fun i hi z => by
  have hj : j < ns.length := (List.getElem?_eq_some_iff.mp h).1
  have := (List.getElem?_inj (i := i) (j := j) (by omega) hnd).mp (by rw [z, h])
  omega
noncomputable def spThere (K : PySem.W.Frag) : Sp := fun vs H Q _ => ∃ (nl bl wt : Addr) (root : Str) (ns ws : List Str) (bs : List (List Rk)), vs = [.ref nl, .ref bl, .str root, .ref wt] ∧ H nl = some (.lst (ns.map V.str)) ∧ BksAt ns H bl bs ∧ ns.Nodup ∧ ns.length ≤ 12 ∧ root ∈ ns ∧ H wt = some (.tup (ws.map V.str)) ∧ (∀ w ∈ ws, w = "do" ∨ w = "ask") ∧
  ∀ (l : Addr) (L : List Str) (H' : Hp), Same H H' → H l = none → H' l = some (.lst (L.map V.str)) → L.Nodup → (∀ x ∈ L, x ∈ ns) → (∀ m, m ∈ L ↔ Rch (Ed ws ns bs) [root] m) → Q (.ref l) H'
noncomputable def muC (σ : L2.St) (_ : Hp) : Nat := match σ[5]? with
  | some (some (V.int i)) => 30 - i.toNat
  | _ => 0
theorem ok_there (T : Txt K mg) : L2.Cl P w K mg base 1 "_law_there" ["_law_names_here", "_law_blocks_here", "_law_root", "_law_words"] (spThere K) := by
  refine Cl.of T.d_law_there sc_law_there (fun vs H Q E h => ?_) (fun _ _ _ _ _ _ us hl => by obtain ⟨a, b, c, d, rfl⟩ := len4 hl; rfl) (fun fa cdv A outer s H vs Q E hr h => ?_)
  · obtain ⟨nl, bl, wt, root, ns, ws, bs, rfl, _⟩ := h
    rfl
  · obtain ⟨nl, bl, wt, root, ns, ws, bs, rfl, hnl, hbk, hnd0, hn12, hroot, hwt, hws, q⟩ := h
    refine ⟨_, (@pss_cons _ _ _ _ _ (@ps_set _ _ (4) _ _ _ _ sc_law_there.nd rfl (Or.inl rfl) (@pe_lst _ _ _ _ (@pa_cons _ _ _ _ _ (@pv _ 2 _ _ (by rfl) (by first   | exact Or.inl rfl   | exact Or.inr (Or.inl rfl)   | exact Or.inr (Or.inr rfl)) (by decide) (by decide)) (@pa_nil _) (by rfl))) (by rfl) (by first   | exact .inl rfl   | exact .inr rfl   | assumption)) (@pss_cons _ _ _ _ _ (@ps_set _ _ (5) _ _ _ _ sc_law_there.nd rfl (Or.inl rfl) (@pe_int _ _ _ _) (by rfl) (by first   | exact .inl rfl   | exact .inr rfl   | assumption)) (@pss_cons _ _ _ _ _ (@ps_while _ _ _ _ _ _ PassesOwn.never (@pt_cmpR _ _ _ _ _ _ _ _ (@op_lt _) (@pv _ 5 _ _ (by rfl) (by first   | exact Or.inl rfl   | exact Or.inr (Or.inl rfl)   | exact Or.inr (Or.inr rfl)) (by decide) (by decide)) (@pe_callB _ _ _ _ _ _ _ _ _ (@call_len_seq _) (by rfl) T.n_len PySem.boot_len (@pa_cons _ _ _ _ _ (@pv _ 4 _ _ (by rfl) (by first   | exact Or.inl rfl   | exact Or.inr (Or.inl rfl)   | exact Or.inr (Or.inr rfl)) (by decide) (by decide)) (@pa_nil _) (by rfl)) (by decide) (by decide) (by rfl) (by rfl)) (nomark _)) (@pss_cons _ _ _ _ _ (@ps_for _ _ _ _ _ _ _ _ PassesOwn.never rfl (@pi_list _ _ _ _ (@pe_ix _ _ _ _ _ _ _ ix_list (@pv _ 1 _ _ (by rfl) (by first   | exact Or.inl rfl   | exact Or.inr (Or.inl rfl)   | exact Or.inr (Or.inr rfl)) (by decide) (by decide)) (@pe_bm _ _ _ _ _ _ _ _ _ _ _ _ PySem.F.plainAttrs_list PySem.F.slot_list_index PySem.F.type_list_index (@mt_index _) (@pv _ 0 _ _ (by rfl) (by first   | exact Or.inl rfl   | exact Or.inr (Or.inl rfl)   | exact Or.inr (Or.inr rfl)) (by decide) (by decide)) (@pa_cons _ _ _ _ _ (@pe_ix _ _ _ _ _ _ _ ix_list (@pv _ 4 _ _ (by rfl) (by first   | exact Or.inl rfl   | exact Or.inr (Or.inl rfl)   | exact Or.inr (Or.inr rfl)) (by decide) (by decide)) (@pv _ 5 _ _ (by rfl) (by first   | exact Or.inl rfl   | exact Or.inr (Or.inl rfl)   | exact Or.inr (Or.inr rfl)) (by decide) (by decide)) (fun _ _ => rfl)) (@pa_nil _) (by rfl)) (by rfl) (by rfl) (by rfl) (by rfl) (by rfl)) (fun _ _ => rfl))) (@pg_name _ _ (6) _ sc_law_there.nd rfl (Or.inl rfl) (by first   | exact .inl rfl   | exact .inr rfl   | assumption)) (@pss_one _ _ _ (@ps_if _ _ _ _ _ _ _ _ (PW.pt (@pw_and _ _ _ _ _ _ _ (@pt_cmpR _ _ _ _ _ _ _ _ (@op_in_seq _) (@pe_ix _ _ _ _ _ _ _ (@ix_tup _) (@pv _ 6 _ _ (by rfl) (by first   | exact Or.inl rfl   | exact Or.inr (Or.inl rfl)   | exact Or.inr (Or.inr rfl)) (by decide) (by decide)) (@pe_int _ _ _ _) (fun _ _ => rfl)) (@pv _ 3 _ _ (by rfl) (by first   | exact Or.inl rfl   | exact Or.inr (Or.inl rfl)   | exact Or.inr (Or.inr rfl)) (by decide) (by decide)) (by with_unfolding_all rfl)) (@pw_and1 _ _ _ _ (@pt_cmpR _ _ _ _ _ _ _ _ (@op_notIn_seq _) (@pe_ix _ _ _ _ _ _ _ (@ix_tup _) (@pv _ 6 _ _ (by rfl) (by first   | exact Or.inl rfl   | exact Or.inr (Or.inl rfl)   | exact Or.inr (Or.inr rfl)) (by decide) (by decide)) (@pe_int _ _ _ _) (fun _ _ => rfl)) (@pv _ 4 _ _ (by rfl) (by first   | exact Or.inl rfl   | exact Or.inr (Or.inl rfl)   | exact Or.inr (Or.inr rfl)) (by decide) (by decide)) (by with_unfolding_all rfl))))) (@pss_one _ _ _ (@ps_expr _ _ _ _ (@pe_bm _ _ _ _ _ _ _ _ _ _ _ _ PySem.F.plainAttrs_list PySem.F.slot_list_append PySem.F.type_list_append (@mt_append _) (@pv _ 4 _ _ (by rfl) (by first   | exact Or.inl rfl   | exact Or.inr (Or.inl rfl)   | exact Or.inr (Or.inr rfl)) (by decide) (by decide)) (@pa_cons _ _ _ _ _ (@pe_ix _ _ _ _ _ _ _ (@ix_tup _) (@pv _ 6 _ _ (by rfl) (by first   | exact Or.inl rfl   | exact Or.inr (Or.inl rfl)   | exact Or.inr (Or.inr rfl)) (by decide) (by decide)) (@pe_int _ _ _ _) (fun _ _ => rfl)) (@pa_nil _) (by rfl)) (by rfl) (by rfl) (by rfl) (by rfl) (by rfl)) (by rfl))) (@pss_nil _))) (by intro _; rfl)) (@pss_one _ _ _ (@ps_set _ _ (5) _ _ _ _ sc_law_there.nd rfl (Or.inl rfl) (@pe_op _ _ _ _ _ _ _ _ (@op_add _) (@pv _ 5 _ _ (by rfl) (by first   | exact Or.inl rfl   | exact Or.inr (Or.inl rfl)   | exact Or.inr (Or.inr rfl)) (by decide) (by decide)) (@pe_int _ _ _ _)) (by rfl) (by first   | exact .inl rfl   | exact .inr rfl   | assumption))))) (@pss_one _ _ _ (@ps_ret _ _ _ _ (@pv _ 4 _ _ (by rfl) (by first   | exact Or.inl rfl   | exact Or.inr (Or.inl rfl)   | exact Or.inr (Or.inr rfl)) (by decide) (by decide))))))), ?_⟩
    refine ⟨_, rfl, (by show 1 ≤ sizeLine; decide), fun l gl => ?_⟩
    have s2 : Same H (upd H l (.lst [.str root])) := (Same.refl H).new gl
    refine to_g ?_
    refine while_by (D := _) (fun σ H2 => ∃ (L : List Str) (i : Nat) (v6 : Option V), σ = [some (.ref nl), some (.ref bl), some (.str root), some (.ref wt), some (.ref l), some (.int (i : Int)), v6] ∧ Same H H2 ∧ H2 l = some (.lst (L.map V.str)) ∧ L.Nodup ∧ i ≤ L.length ∧ (∀ x ∈ L, x ∈ ns) ∧ root ∈ L ∧ (∀ x ∈ L, Rch (Ed ws ns bs) [root] x) ∧ ∀ j x, j < i → L[j]? = some x → ∀ y, Ed ws ns bs x y → y ∈ L) muC
      ⟨[root], 0, none, rfl, s2, upd_same, by simp, by simp, fun x hx => by rw [List.mem_singleton.mp hx]; exact hroot, by simp, fun x hx => .base hx, fun j x hj => by omega⟩ ?_ ?_
    · rintro σ H2 ⟨L, i, v6, rfl, s3, hl, hnd, hiL, hLN, hrL, hRc, hcl2⟩
      have hLl := nodup_lenG L _ hnd hLN
      refine ⟨_, rfl, _, rfl, l, _, rfl, .inl (SqL.of hl), _, _, rfl, rfl, _, rfl, ?_⟩
      rw [List.length_map]
      refine ite2 (fun hlt => ?_) (fun hlt => ?_)
      · have hiL' : i < L.length := by have := of_decide_eq_true hlt; omega
        have hx : L[i]? = some L[i] := by simp [hiL']
        have hxN := hLN _ (List.getElem_mem hiL')
        obtain ⟨jn, hjn⟩ := List.getElem?_of_mem hxN
        obtain ⟨bvs, hbl0, hbp, hbsl, hb40⟩ := id hbk
        have hbl := s3 _ _ hbl0
        have hjl : jn < ns.length := (List.getElem?_eq_some_iff.mp hjn).1
        have hrs : bs[jn]? = some bs[jn] := List.getElem?_eq_getElem (by omega)
        obtain ⟨bv, hbv, b, rfl, hb0, hra0⟩ := Paired.get?' hbp hrs
        generalize bs[jn] = rs at hrs hb0 hra0
        have hbl' : b ≠ l := fun z => by rw [z, gl] at hb0; cases hb0
        have hb := s3 _ _ hb0
        have hra := fun r hr => (hra0 r hr).mono s3.tups
        refine ⟨_, rfl, _, rfl, .inl ⟨rfl, _, SqL.of (s3 _ _ hnl)⟩, _, rfl, _, rfl, l, _, _, _, rfl, rfl, SqL.of hl, atI_nat (by rw [List.getElem?_map, hx]; rfl), nl, ns, _, jn, rfl, rfl, SqL.of (s3 _ _ hnl), hjn, first_at hnd0 hjn, ?_⟩
        refine ⟨bl, _, _, _, rfl, rfl, SqL.of hbl, atI_nat hbv, ?_⟩
        refine ⟨b, rfl, ⟨_, SqL.of hb⟩, for_list (K := K) (a := b) (xs := rs.map fun r => V.ref r.a) (fun t σ H3 => ∃ (L' : List Str) (v6 : Option V), σ = [some (.ref nl), some (.ref bl), some (.str root), some (.ref wt), some (.ref l), some (.int (i : Int)), v6] ∧ Same H H3 ∧ But l H2 H3 ∧ H3 l = some (.lst ((L ++ L').map V.str)) ∧ (L ++ L').Nodup ∧ (∀ x ∈ L ++ L', x ∈ ns) ∧ (∀ x ∈ L ++ L', Rch (Ed ws ns bs) [root] x) ∧ ∀ r ∈ rs.take t, r.k ∈ ws → ∀ m, r.t = some m → m ∈ L ++ L')
          ⟨[], _, rfl, s3, fun a o _ h => h, by rw [List.append_nil]; exact hl, by rw [List.append_nil]; exact hnd, by rw [List.append_nil]; exact hLN, by rw [List.append_nil]; exact hRc, by simp⟩ (fun t σ H3 _ ⟨_, _, _, _, B3, _⟩ => SqL.of (B3 _ _ hbl' hb)) ?_ ?_⟩
        · rintro t y σ H3 hy ⟨L', v6', rfl, s4, B3, hl3, hnd3, hN3, hR3, hc3⟩
          rw [List.getElem?_map] at hy
          obtain ⟨r, hr, rfl⟩ := Option.map_eq_some_iff.mp hy
          have hrm : r ∈ rs := List.mem_of_getElem? hr
          obtain ⟨y1, tl, hrt0, hkp, hto⟩ := hra r hrm
          have hrt := B3 _ _ (fun z => by rw [z, hl] at hrt0; cases hrt0) hrt0
          have hLl3 := nodup_lenG _ _ hnd3 hN3
          have z0 : atI (V.str r.k :: y1 :: tl) 0 = some (.str r.k) := atI_nat (j := 0) rfl
          have z1 : atI (V.str r.k :: y1 :: tl) 1 = some y1 := atI_nat (j := 1) rfl
          have hwt3 : SqT K H3 wt (ws.map V.str) := SqT.of (s4 _ _ hwt)
          refine ⟨_, rfl, r.a, _, _, _, rfl, rfl, SqT.of hrt, z0, _, rfl, wt, _, rfl, .inr hwt3, rfl, strs_flat _, _, rfl, ?_⟩
          rw [inV_strs]
          by_cases hkw : r.k ∈ ws
          · rw [decide_eq_true hkw]
            refine iteT ?_
            obtain ⟨m, hmN, hrt', rfl⟩ := hto (hws _ hkw)
            refine ⟨_, rfl, r.a, _, _, _, rfl, rfl, SqT.of hrt, z1, _, rfl, l, _, rfl, .inl (SqL.of hl3), rfl, strs_flat _, _, rfl, ?_⟩
            rw [inV_strs]
            have hmk : Ed ws ns bs L[i] m := ⟨jn, rs, r, hjn, hrs, hrm, hkw, hrt'⟩
            by_cases hin : m ∈ L ++ L'
            · rw [decide_eq_true hin]
              refine iteF ?_
              refine ⟨L', _, rfl, s4, B3, hl3, hnd3, hN3, hR3, fun r1 hr1 hk1 m' hm' => ?_⟩
              rw [take_succ_get hr] at hr1
              rcases List.mem_append.mp hr1 with z | z
              · exact hc3 r1 z hk1 m' hm'
              · rw [List.mem_singleton.mp z, hrt'] at hm'
                cases hm'
                exact hin
            · rw [decide_eq_false hin]
              refine iteT ?_
              refine ⟨_, rfl, .inl ⟨rfl, _, SqL.of hl3⟩, _, rfl, r.a, _, _, _, rfl, rfl, SqT.of hrt, z1, l, _, _, rfl, rfl, hl3, small1000 (by rw [List.length_map]; omega), ?_⟩
              refine ⟨L' ++ [m], _, rfl, s4.put gl, (fun a o ha h => by rw [upd_ne ha]; exact B3 a o ha h), ?_, ?_, ?_, ?_, ?_⟩
              · rw [upd_same, ← List.append_assoc, List.map_append (l₂ := [m])]; rfl
              · rw [← List.append_assoc]
                refine List.nodup_append.mpr ⟨hnd3, by simp, fun a ha b hb z => ?_⟩
                rw [List.mem_singleton.mp hb] at z
                exact hin (by rw [← z]; exact ha)
              · intro x hx
                rw [← List.append_assoc] at hx
                rcases List.mem_append.mp hx with z | z
                · exact hN3 x z
                · rw [List.mem_singleton.mp z]; exact hmN
              · intro x hx
                rw [← List.append_assoc] at hx
                rcases List.mem_append.mp hx with z | z
                · exact hR3 x z
                · rw [List.mem_singleton.mp z]; exact .step (hRc _ (List.getElem_mem hiL')) hmk
              · intro r1 hr1 hk1 m' hm'
                rw [← List.append_assoc]
                rw [take_succ_get hr] at hr1
                rcases List.mem_append.mp hr1 with z | z
                · exact List.mem_append_left _ (hc3 r1 z hk1 m' hm')
                · rw [List.mem_singleton.mp z, hrt'] at hm'
                  cases hm'
                  exact List.mem_append_right _ (List.mem_singleton.mpr rfl)
          · rw [decide_eq_false hkw]
            refine iteF (iteF ?_)
            refine ⟨L', _, rfl, s4, B3, hl3, hnd3, hN3, hR3, fun r1 hr1 hk1 m' hm' => ?_⟩
            rw [take_succ_get hr] at hr1
            rcases List.mem_append.mp hr1 with z | z
            · exact hc3 r1 z hk1 m' hm'
            · rw [List.mem_singleton.mp z] at hk1
              exact absurd hk1 hkw
        · rintro σ H3 ⟨L', v6', rfl, s4, B3, hl3, hnd3, hN3, hR3, hc3⟩
          rw [List.length_map, List.take_length] at hc3
          refine ⟨_, rfl, _, _, rfl, rfl, ⟨⟨L ++ L', i + 1, _, rfl, s4, hl3, hnd3, by rw [List.length_append]; omega, hN3, List.mem_append_left _ hrL, hR3, fun j x hj hx' y hy => ?_⟩, ?_⟩⟩
          · rw [List.getElem?_append_left (by omega)] at hx'
            by_cases e' : j = i
            · subst e'
              have hxe : x = L[j] := Option.some.inj (hx'.symm.trans hx)
              rw [hxe] at hy
              obtain ⟨j2, rs2, r2, g1, g2, g3, g4, g5⟩ := hy
              have : jn = j2 := (List.getElem?_inj hjl hnd0).mp (by rw [hjn, g1])
              subst this
              rw [hrs] at g2
              cases g2
              exact hc3 r2 g3 g4 y g5
            · exact List.mem_append_left _ (hcl2 j x (by omega) hx' y hy)
          · show (30 - ((i : Int) + 1).toNat) < 30 - ((i : Int)).toNat
            omega
      · have hiE : i = L.length := by
          have : ¬ ((i : Int) < (L.length : Int)) := fun z => hlt (decide_eq_true z)
          omega
        refine ⟨_, rfl, q l L H2 s3 gl hl hnd hLN fun m => ⟨hRc m, fun hm => ?_⟩⟩
        refine Rch.of (fun n hn => by rw [List.mem_singleton.mp hn]; exact hrL) (fun x hx y hy => ?_) hm
        obtain ⟨j, hj⟩ := List.getElem?_of_mem hx
        exact hcl2 j x (by have := (List.getElem?_eq_some_iff.mp hj).1; omega) hj y hy
    · rintro σ H2 Q1 Q2 hQ ⟨v, e1, v2, e2, p, xs, e3, h4, i, j, e5, e6, k, e7, h8⟩
      exact ⟨v, e1, v2, e2, p, xs, e3, h4, i, j, e5, e6, k, e7, hQ _ _ h8⟩
theorem hu3_of {A : Around} {k : Nat} (hr : Room k A) : A.units + 1 + 2 < cLine := Nat.lt_of_le_of_lt (Nat.add_le_add_left (by decide : 1 + 2 ≤ 64) _) hr.units
noncomputable def Bnd (ns : List Int) : Prop := ∀ n ∈ ns, 0 ≤ n ∧ n < 2305843009213693951
noncomputable def spStream : Sp := fun vs H Q _ => ∃ (c m : Int), vs = [.int c, .int m] ∧ 1 ≤ m ∧ m ≤ 20 ∧ ∀ (l : Addr) (ns : List Int) (H' : Hp), Same H H' → H' l = some (.lst (ns.map V.int)) → (ns.length : Int) = m → Bnd ns → Q (.ref l) H'
theorem cut_from (xs : List V) (k : Nat) (hk : k ≤ xs.length) : cutV xs (some (k : Int)) none = xs.drop k := by
  unfold cutV
  rw [HT.sIx_none, HT.sIx_nat, Nat.min_eq_left hk, List.take_of_length_le (by simp)]
theorem ok_stream (T : Txt K mg) : L2.Cl P w K mg base 1 "_law_stream" ["_law_cell", "_law_many"] spStream := by
  refine Cl.of T.d_law_stream sc_law_stream (fun vs H Q E h => ?_) (fun _ _ _ _ _ _ us hl => by obtain ⟨a, b, rfl⟩ := len2 hl; rfl) (fun f cdv A outer s H vs Q E hr h => ?_)
  · obtain ⟨c, m, rfl, _⟩ := h
    rfl
  · obtain ⟨c, m, rfl, hm1, hm2, q⟩ := h
    refine ⟨_, (pss_cons (ps_set (i := 2) sc_law_stream.nd rfl (Or.inl rfl) (pe_lst pa_nil))
      (pss_cons (ps_set (i := 3) sc_law_stream.nd rfl (Or.inl rfl) (pe_op op_mod (pv 0) pe_int))
      (pss_cons (ps_for PassesOwn.never rfl (pi_range1 (by rfl) T.n_range (pa_cons (pe_op op_add (pv 1) pe_int) pa_nil)) (pg_name (i := 4) sc_law_stream.nd rfl (Or.inl rfl))
        (pss_cons (ps_set (i := 3) sc_law_stream.nd rfl (Or.inl rfl) (pe_op op_mod (pe_op op_add (pe_op op_add (pe_op op_add (pe_op op_mul (pv 3) (pv 3)) (pe_op op_mul pe_int (pv 3))) (pe_op op_mul pe_int (pv 4))) pe_int) pe_int))
        (pss_one (ps_expr (pe_bm PySem.F.plainAttrs_list PySem.F.slot_list_append PySem.F.type_list_append mt_append (pv 2) (pa_cons (pv 3) pa_nil))))))
      (pss_one (ps_ret (pe_slice sl_list (pv 2) (po_some pe_int) po_none)))))), ?_⟩
    refine ⟨(by show 0 ≤ sizeLine; decide), fun l hl => ⟨_, rfl, _, _, rfl, rfl, (by show (0 : Int) < 2305843009213693951; decide), ?_⟩⟩
    have s1 : Same H (upd H l (.lst [])) := (Same.refl H).new hl
    refine ⟨_, rfl, _, _, rfl, rfl, _, rfl, (by omega), (by omega), for_range (fun i σ H2 => ∃ (zs : List Int) (z : Int) (v4 : Option V), σ = [some (.int c), some (.int m), some (.ref l), some (.int z), v4] ∧ Same H H2 ∧ H2 l = some (.lst (zs.map V.int)) ∧ zs.length = i ∧ Bnd zs ∧ 0 ≤ z ∧ z < 2305843009213693951)
      ⟨[], _, none, rfl, s1, upd_same, rfl, (fun n hn => by simp at hn), (by omega), (by omega)⟩ ?_ ?_⟩
    · rintro i σ H2 hi ⟨zs, z, v4, rfl, s2, hl2, hlen, hb, hz0, hz1⟩
      refine ⟨_, rfl, _, rfl, _, _, rfl, rfl, .inl ⟨by omega, by omega⟩, _, rfl, _, _, rfl, rfl, .inl ⟨by decide, by decide⟩, _, _, rfl, rfl, _, rfl, _, _, rfl, rfl, .inl ⟨by decide, by decide⟩, _, _, rfl, rfl, _, _, rfl, rfl, _, _, rfl, rfl, (by show (0 : Int) < 2305843009213693951; decide), ?_⟩
      generalize z * z + 48271 * z + 7 * (0 + (i : Int)) + 3 = y
      refine ⟨_, rfl, .inl ⟨rfl, _, SqL.of hl2⟩, _, rfl, l, _, _, rfl, rfl, hl2, small1000 (by rw [List.length_map]; omega), ?_⟩
      refine ⟨zs ++ [y % 2305843009213693951], y % 2305843009213693951, _, rfl, s2.put hl, by rw [upd_same, List.map_append]; rfl, by simp [hlen], fun n hn => ?_, by omega, by omega⟩
      rcases List.mem_append.mp hn with h | h
      · exact hb n h
      · rw [List.mem_singleton.mp h]; omega
    · rintro σ H2 ⟨zs, z, v4, rfl, s2, hl2, hlen, hb, hz0, hz1⟩
      refine ⟨_, rfl, _, rfl, l, _, rfl, SqL.of hl2, fun d hd => ?_⟩
      refine q d (zs.drop 1) _ (s2.new hd) ?_ (by rw [List.length_drop]; omega) fun n hn => hb n (List.mem_of_mem_drop hn)
      rw [upd_same]
      exact congrArg (fun z => some (HO.lst z)) ((cut_from _ 1 (by rw [List.length_map]; omega)).trans (List.map_drop ..).symm)
theorem comp_lst {K : PySem.W.Frag} {a : Addr} {xs : List V} {g : TG} {tt : TT} {te : TE} {Q : Hp → Prop} {σ : L2.St} {H : Hp} {D : Addr} (Pv : Nat → L2.St → Hp → Prop) (h0 : Pv 0 σ (upd H D (.lst [])))
    (hl : ∀ i σ2 H2, Pv i σ2 H2 → SqL K H2 a xs)
    (hs : ∀ i x σ2 H2, xs[i]? = some x → Pv i σ2 H2 → g x σ2 H2 fun σ4 H4 => tt σ4 H4 fun b H5 =>
      if b = true then te σ4 H5 fun y H6 => ∃ ys, H6 D = some (.lst ys) ∧ ys.length < sizeLine ∧ Pv (i + 1) σ4 (upd H6 D (.lst (ys ++ [y]))) else Pv (i + 1) σ4 H5)
    (hd : ∀ σ2 H2, Pv xs.length σ2 H2 → Q H2) :
    ∃ W : Nat → Nat → L2.St → Hp → Prop, (∃ m, W 0 m σ (upd H D (.lst []))) ∧ ∀ i m σ2 H2, W i m σ2 H2 →
      ((Itl K a).stop i H2 ∧ Q H2) ∨ ((Itl K a).go i H2 ∧ ∃ N : L2.St → Hp → Prop, (∀ σ' H', N σ' H' → ∃ m', m' < m ∧ W (i + 1) m' σ' H') ∧ ∀ x H3, (Itl K a).yld i H2 x H3 → g x σ2 H3 fun σ4 H4 => tt σ4 H4 fun b H5 =>
        if b = true then te σ4 H5 fun y H6 => ∃ ys, H6 D = some (.lst ys) ∧ ys.length < sizeLine ∧ N σ4 (upd H6 D (.lst (ys ++ [y]))) else N σ4 H5) := by
  refine comp_by xs.length Pv h0 (fun i σ2 H2 hi p => ?_) fun σ2 H2 p => ⟨⟨xs, hl _ _ _ p, Nat.le_refl _⟩, hd _ _ p⟩
  have e := List.getElem?_eq_getElem hi
  refine ⟨⟨xs, _, hl _ _ _ p, e⟩, fun x H3 hy => ?_⟩
  obtain ⟨rfl, hx⟩ := hy
  exact hs i x σ2 H3 (hx xs (hl _ _ _ p)) p
theorem mod_in {i n : Int} (h : 0 < n) : 0 ≤ i % n ∧ i % n < n := ⟨Int.emod_nonneg _ (by omega), Int.emod_lt_of_pos _ h⟩
noncomputable def lets26 : Str := "abcdefghijklmnopqrstuvwxyz"
theorem lets26_at : ∀ k : Nat, k < 26 → atI lets26.cps.toList (k : Int) = some (97 + k) := by decide +kernel
theorem lets26_atI {i : Int} (h0 : 0 ≤ i) (h1 : i < 26) : atI lets26.cps.toList i = some (97 + i.toNat) := by
  have := lets26_at i.toNat (by omega)
  rw [show ((i.toNat : Nat) : Int) = i by omega] at this
  exact this
noncomputable def nmK (u v : Str) (k : Nat) : Str := u ++ (⟨#[97 + k % 26]⟩ : Str) ++ v ++ (["", "2"] : List Str).getD (k / 26) ""
theorem nmK_inj {u v : Str} {k k' : Nat} (hk : k < 26) (hk' : k' < 26) (h : nmK u v k = nmK u v k') : k = k' := by
  unfold nmK at h
  rw [Nat.div_eq_of_lt hk, Nat.div_eq_of_lt hk', Nat.mod_eq_of_lt hk, Nat.mod_eq_of_lt hk'] at h
  have h1 := congrArg (fun z : Str => z.cps.toList) h
  have e : ∀ z : Nat, ((u ++ (⟨#[z]⟩ : Str) ++ v ++ (["", "2"] : List Str).getD 0 "") : Str).cps.toList = u.cps.toList ++ ([z] ++ v.cps.toList) := fun z => by
    show (((u.cps ++ #[z]) ++ v.cps) ++ #[]).toList = _
    rw [Array.append_empty, Array.toList_append, Array.toList_append, List.append_assoc]
  have h2 : u.cps.toList ++ ([97 + k] ++ v.cps.toList) = u.cps.toList ++ ([97 + k'] ++ v.cps.toList) := by rw [← e, ← e]; exact h1
  have h3 := List.append_cancel_left h2
  have := (List.cons.inj h3).1
  omega
noncomputable def nmsK (u v : Str) (m : Nat) : List Str := (List.range m).map (nmK u v)
theorem nmsK_succ (u v : Str) (m : Nat) : nmsK u v (m + 1) = nmsK u v m ++ [nmK u v m] := by unfold nmsK; rw [List.range_succ, List.map_append]; rfl
theorem nmsK_len (u v : Str) (m : Nat) : (nmsK u v m).length = m := by unfold nmsK; simp
theorem nmsK_nd {u v : Str} {m : Nat} (hm : m ≤ 26) : (nmsK u v m).Nodup := by
  unfold nmsK
  rw [List.nodup_iff_pairwise_ne, List.pairwise_map]
  refine List.Pairwise.imp_of_mem (fun ha hb hne h => hne (nmK_inj ?_ ?_ h)) (List.nodup_iff_pairwise_ne.mp List.nodup_range)
  · have := List.mem_range.mp ha; omega
  · have := List.mem_range.mp hb; omega
theorem nmsK_le {u v : Str} {m : Nat} (hu : u.length ≤ 3) (hv : v.length ≤ 3) {x : Str} (hx : x ∈ nmsK u v m) : x.length ≤ 20 := by
  obtain ⟨k, _, rfl⟩ := List.mem_map.mp hx
  unfold nmK
  have : ∀ j : Nat, ((["", "2"] : List Str).getD j "").length ≤ 1 := fun j => by
    match j with
    | 0 => decide
    | 1 => decide
    | j + 2 => exact Nat.zero_le _
  have := this (k / 26)
  rw [Str.length_append, Str.length_append, Str.length_append]
  have e : (⟨#[97 + k % 26]⟩ : Str).length = 1 := rfl
  omega
noncomputable def spNamesK : Sp := fun vs H Q _ => ∃ (c m : Int), vs = [.int c, .int m] ∧ 0 ≤ m ∧ m ≤ 40 ∧ ∀ (l : Addr) (ns : List Str) (H' : Hp), Same H H' → H l = none → H' l = some (.lst (ns.map V.str)) → (ns.length : Int) = m → (m ≤ 26 → ns.Nodup) → (∀ x ∈ ns, x.length ≤ 20) → Q (.ref l) H'
theorem ok_names (T : Txt K mg) : L2.Cl P w K mg base 1 "_law_names" ["_law_cell", "_law_many"] spNamesK := by
  refine Cl.of T.d_law_names sc_law_names (fun vs H Q E h => ?_) (fun _ _ _ _ _ _ us hl => by obtain ⟨a, b, rfl⟩ := len2 hl; rfl) (fun f cdv A outer s H vs Q E hr h => ?_)
  · obtain ⟨c, m, rfl, _⟩ := h
    rfl
  · obtain ⟨c, m, rfl, hm0, hm1, q⟩ := h
    have hsz : sizeLine = 16777216 := sizeLine_eq
    have c4 := mod_in (i := c) (n := 4) (by decide)
    have d4 := mod_in (i := c / 4) (n := 4) (by decide)
    refine ⟨_, (pss_cons (ps_set (i := 2) sc_law_names.nd rfl (Or.inr rfl) pe_str)
      (pss_cons (ps_set (i := 3) sc_law_names.nd rfl (Or.inr rfl) pe_str)
      (pss_cons (ps_set (i := 4) sc_law_names.nd rfl (Or.inr rfl) pe_str)
      (pss_cons (ps_for PassesOwn.never rfl (pi_range1 (by rfl) T.n_range (pa_cons (pe_op op_mod (pv 0) pe_int) pa_nil)) (pg_name (i := 5) sc_law_names.nd rfl (Or.inl rfl))
        (pss_one (ps_set (i := 3) sc_law_names.nd rfl (Or.inr rfl) (pe_op op_add_str (pv 3) (pe_ix ix_str (pv 2) (pe_op op_mod (pe_op op_fdiv (pe_op op_fdiv (pv 0) pe_int) (pe_op op_add (pe_op op_mul pe_int (pv 5)) pe_int)) pe_int) (fun _ _ => rfl))))))
      (pss_cons (ps_for PassesOwn.never rfl (pi_range1 (by rfl) T.n_range (pa_cons (pe_op op_mod (pe_op op_fdiv (pv 0) pe_int) pe_int) pa_nil)) (pg_name (i := 5) sc_law_names.nd rfl (Or.inl rfl))
        (pss_one (ps_set (i := 4) sc_law_names.nd rfl (Or.inr rfl) (pe_op op_add_str (pv 4) (pe_ix ix_str (pv 2) (pe_op op_mod (pe_op op_fdiv (pe_op op_fdiv (pv 0) pe_int) (pe_op op_add (pe_op op_mul pe_int (pv 5)) pe_int)) pe_int) (fun _ _ => rfl))))))
      (pss_one (ps_ret (pe_comp (M := ["_law_k", "_law_behind", "_law_ahead_here", "_law_letters"]) (ρ := [none, some 4, some 3, some 2]) (defScope s_law_names) ["_law_cell", "_law_many", "_law_letters", "_law_ahead_here", "_law_behind", "_law_k"] ⟨rfl, by decide +kernel, by decide +kernel, by decide +kernel, rfl, by decide +kernel, by decide +kernel⟩ (pi_range1 (by rfl) T.n_range (pa_cons (pv 1) pa_nil)) (fun _ _ _ _ _ _ => (pg_name (i := 0) (show (["_law_k", "_law_behind", "_law_ahead_here", "_law_letters"] : List Str).Nodup by decide +kernel) rfl (Or.inl rfl))) (fun _ _ _ _ _ _ => pts_nil) (fun _ _ _ _ _ _ => (pe_op op_add_str (pe_op op_add_str (pe_op op_add_str (pv 2) (pe_ix ix_str (pv 3) (pe_op op_mod (pv 0) pe_int) (fun _ _ => rfl))) (pv 1)) (pe_ix (ix_listK (K := K) rfl) (pe_lst (pa_cons pe_str (pa_cons pe_str pa_nil))) (pe_op op_fdiv (pv 0) pe_int) (fun _ _ => rfl)))))))))))), ?_⟩
    refine ⟨_, rfl, _, _, rfl, rfl, (by show (0 : Int) < 4; decide), _, rfl, (by omega), (by omega), ?_⟩
    refine for_range (n := (c % 4).toNat) (fun i σ H2 => ∃ (u : Str) (v5 : Option V), σ = [some (.int c), some (.int m), some (.str lets26), some (.str u), some (.str ""), v5] ∧ H2 = H ∧ u.length = i) ⟨"", none, rfl, rfl, rfl⟩ ?_ ?_
    · rintro i σ H2 hi ⟨u, v5, rfl, rfl, hul⟩
      have m26 := mod_in (i := c / 16 / (5 * (0 + (i : Int)) + 1)) (n := 26) (by decide)
      refine ⟨_, rfl, _, rfl, _, rfl, _, _, rfl, rfl, ⟨by decide, by decide⟩, _, rfl, _, _, rfl, rfl, .inl ⟨by decide, by decide⟩, _, _, rfl, rfl, _, _, rfl, rfl, ⟨by omega, by omega⟩, _, _, rfl, rfl, (by show (0 : Int) < 26; decide), lets26, _, _, rfl, rfl, (by decide +kernel), lets26_atI m26.1 m26.2, ?_⟩
      refine ⟨_, _, rfl, rfl, (by show u.length + 1 ≤ sizeLine; omega), ?_⟩
      exact ⟨_, _, rfl, rfl, by rw [Str.length_append, hul]; rfl⟩
    · rintro σ H2 ⟨u, v5, rfl, rfl, hul⟩
      refine ⟨_, rfl, _, _, rfl, rfl, ⟨by decide, by decide⟩, _, _, rfl, rfl, (by show (0 : Int) < 4; decide), _, rfl, (by omega), (by omega), ?_⟩
      refine for_range (n := (c / 4 % 4).toNat) (fun i σ H3 => ∃ (v : Str) (v5 : Option V), σ = [some (.int c), some (.int m), some (.str lets26), some (.str u), some (.str v), v5] ∧ H3 = H2 ∧ v.length = i) ⟨"", _, rfl, rfl, rfl⟩ ?_ ?_
      · rintro i σ H3 hi ⟨v, v5, rfl, rfl, hvl⟩
        have m26 := mod_in (i := c / 16 / (7 * (0 + (i : Int)) + 2)) (n := 26) (by decide)
        refine ⟨_, rfl, _, rfl, _, rfl, _, _, rfl, rfl, ⟨by decide, by decide⟩, _, rfl, _, _, rfl, rfl, .inl ⟨by decide, by decide⟩, _, _, rfl, rfl, _, _, rfl, rfl, ⟨by omega, by omega⟩, _, _, rfl, rfl, (by show (0 : Int) < 26; decide), lets26, _, _, rfl, rfl, (by decide +kernel), lets26_atI m26.1 m26.2, ?_⟩
        refine ⟨_, _, rfl, rfl, (by show v.length + 1 ≤ sizeLine; omega), ?_⟩
        exact ⟨_, _, rfl, rfl, by rw [Str.length_append, hvl]; rfl⟩
      · rintro σ H3 ⟨v, v5, rfl, rfl, hvl⟩
        refine ⟨_, rfl, _, rfl, (by omega), (by omega), fun D gD => ?_⟩
        refine comp_by m.toNat (fun i σ H4 => ∃ v0 : Option V, σ = [v0, some (.str v), some (.str u), some (.str lets26)] ∧ Same H3 H4 ∧ H4 D = some (.lst ((nmsK u v i).map V.str))) ⟨_, rfl, (Same.refl H3).new gD, upd_same⟩ ?_ ?_
        · rintro i σ H4 hi ⟨v0, rfl, s4, hD⟩
          refine ⟨hi, ?_⟩
          rintro x H5 ⟨rfl, rfl⟩
          refine ntG ?_
          have e1 : (0 : Int) + (i : Int) = ((i : Nat) : Int) := by omega
          have e2 : (0 + (i : Int)) % 26 = ((i % 26 : Nat) : Int) := by omega
          have e3 : (0 + (i : Int)) / 26 = ((i / 26 : Nat) : Int) := by omega
          have hi40 : i < 40 := by omega
          have a1 : atI lets26.cps.toList ((0 + (i : Int)) % 26) = some (97 + i % 26) := by
            rw [e2]
            exact lets26_at _ (Nat.mod_lt _ (by decide))
          have hdl : i / 26 < 2 := by omega
          have a2 : atI ((["", "2"] : List Str).map V.str) ((0 + (i : Int)) / 26) = some (.str ((["", "2"] : List Str).getD (i / 26) "")) := by
            rw [e3]
            exact atI_map V.str (["", "2"] : List Str) "" (i := ((i / 26 : Nat) : Int)) (by omega) (by show ((i / 26 : Nat) : Int) < 2; omega)
          have a3 : ((["", "2"] : List Str).getD (i / 26) "").length ≤ 1 := by
            have : ∀ j : Nat, j < 2 → ((["", "2"] : List Str).getD j "").length ≤ 1 := by decide +kernel
            exact this _ hdl
          refine ⟨_, rfl, _, rfl, _, rfl, _, _, rfl, rfl, (by show (0 : Int) < 26; decide), lets26, _, _, rfl, rfl, (by decide +kernel), a1, ?_⟩
          refine ⟨_, _, rfl, rfl, (by show u.length + 1 ≤ sizeLine; omega), _, rfl, _, _, rfl, rfl, (by rw [Str.length_append]; show (u.length + 1) + v.length ≤ sizeLine; omega), ?_⟩
          refine ⟨(by show 2 ≤ sizeLine; decide), fun l gl => ⟨_, rfl, _, _, rfl, rfl, ⟨by decide, by decide⟩, l, _, _, _, rfl, rfl, SqL.of upd_same, a2, ?_⟩⟩
          have hl2 : (u ++ (⟨#[97 + i % 26]⟩ : Str) ++ v).length = u.length + 1 + v.length := by rw [Str.length_append, Str.length_append]; rfl
          refine ⟨_, _, rfl, rfl, (by show (u ++ (⟨#[97 + i % 26]⟩ : Str) ++ v).length + _ ≤ sizeLine; rw [hl2]; omega), ?_⟩
          have hlD : l ≠ D := fun z => by rw [z, hD] at gl; cases gl
          refine ⟨_, (upd_keep hD gl), small1000 (by rw [List.length_map, nmsK_len]; omega), _, rfl, (s4.new gl).put gD, ?_⟩
          rw [upd_same, nmsK_succ, List.map_append]
          rfl
        · rintro σ H4 ⟨v0, rfl, s4, hD⟩
          refine ⟨Nat.le_refl _, ?_⟩
          exact q D (nmsK u v m.toNat) H4 s4 gD hD (by rw [nmsK_len]; omega) (fun h26 => nmsK_nd (by omega)) fun x hx => nmsK_le (by omega) (by omega) hx
noncomputable def spSumK : Sp := fun vs H Q _ => ∃ (ow nu : Addr) (os : List Str) (xs : List Int), vs = [.ref ow, .ref nu] ∧ H ow = some (.lst (os.map V.str)) ∧ H nu = some (.lst (xs.map V.int)) ∧ 9 ≤ xs.length ∧ xs.length ≤ 12 ∧ Bnd xs ∧ ∀ (t : Addr) (H' : Hp), Same H H' → Q (.ref t) H'
theorem atB {xs : List Int} (hb : Bnd xs) {i : Int} (h0 : 0 ≤ i) (h1 : i < (xs.length : Int)) : ∃ x : Int, atI (xs.map V.int) i = some (.int x) ∧ 0 ≤ x ∧ x < 2305843009213693951 := by
  obtain ⟨v, hv, e⟩ := atI_mem (xs.map V.int) h0 (by rw [List.length_map]; exact h1)
  obtain ⟨x, hx, rfl⟩ := List.mem_map.mp hv
  exact ⟨x, e, (hb x hx).1, (hb x hx).2⟩
theorem ok_sum (T : Txt K mg) : L2.Cl P w K mg base 1 "_law_sum" ["_law_owns", "_law_numbers"] spSumK := by
  refine Cl.of T.d_law_sum sc_law_sum (fun vs H Q E h => ?_) (fun _ _ _ _ _ _ us hl => by obtain ⟨a, b, rfl⟩ := len2 hl; rfl) (fun f cdv A outer s H vs Q E hr h => ?_)
  · obtain ⟨ow, nu, os, xs, rfl, _⟩ := h
    rfl
  · obtain ⟨ow, nu, os, xs, rfl, how, hnu, hx9, hx12, hb, q⟩ := h
    have hu0 := Nat.lt_of_succ_lt (hu_of hr)
    refine ⟨_, (pss_cons (ps_set (i := 2) sc_law_sum.nd rfl (Or.inl rfl) (pe_lst pa_nil))
      (pss_cons (ps_for PassesOwn.never rfl (pi_range1 (by rfl) T.n_range (pa_cons (pe_op op_add pe_int (pe_op op_mod (pe_ix ix_list (pv 1) pe_int (fun _ _ => rfl)) pe_int)) pa_nil)) (pg_name (i := 3) sc_law_sum.nd rfl (Or.inl rfl))
        (pss_cons (ps_set (i := 4) sc_law_sum.nd rfl (Or.inl rfl) (pe_ix ix_list (pv 1) (pe_op op_add (pv 3) pe_int) (fun _ _ => rfl)))
        (pss_cons (ps_set (i := 5) sc_law_sum.nd rfl (Or.inl rfl) (pe_op op_mod (pe_op op_fdiv (pv 4) pe_int) (pe_op op_pow pe_int pe_int)))
        (pss_cons (ps_if (PW.pt (pw_and (pt_cmpR op_gt (pe_op op_mod (pv 4) pe_int) pe_int (nomark _)) (pw_and1 (pt_cmpR (op_neL_nil hu0) (pv 0) (pe_lst pa_nil) (nomark _)))))
          (pss_one (ps_set (i := 5) sc_law_sum.nd rfl (Or.inl rfl) (pe_ix ix_list (pv 0) (pe_op op_mod (pe_op op_fdiv (pv 4) pe_int) (pe_callB call_len_seq (by rfl) T.n_len PySem.boot_len (pa_cons (pv 0) pa_nil))) (fun _ _ => rfl)))) pss_nil)
        (pss_cons (ps_set (i := 6) sc_law_sum.nd rfl (Or.inl rfl) pe_int)
        (pss_cons (ps_if (PW.pt (pw_and (pt_cmpR op_gt (pv 3) pe_int (nomark _)) (pw_and1 (pt_cmpR op_eq (pe_op op_mod (pe_op op_fdiv (pe_ix ix_list (pv 1) pe_int (fun _ _ => rfl)) (pe_op op_add pe_int (pe_op op_mul pe_int (pv 3)))) pe_int) pe_int (nomark _)))))
          (pss_one (ps_set (i := 6) sc_law_sum.nd rfl (Or.inl rfl) (pe_un un_neg pe_int))) pss_nil)
        (pss_one (ps_expr (pe_bm PySem.F.plainAttrs_list PySem.F.slot_list_append PySem.F.type_list_append mt_append (pv 2) (pa_cons (pe_tup (pa_cons (pv 6) (pa_cons (pv 5) pa_nil))) pa_nil))))))))))
      (pss_one (ps_ret (pe_callTy call_tuple_of (by rfl) T.n_tuple boot_tuple (pa_cons (pv 2) pa_nil)))))), ?_⟩
    refine ⟨(by show 0 ≤ sizeLine; decide), fun D gD => ?_⟩
    obtain ⟨x0, hx0, x00, _⟩ := atB hb (i := 0) (by omega) (by omega)
    have m6 := mod_in (i := x0) (n := 6) (by decide)
    refine ⟨_, rfl, nu, _, _, _, rfl, rfl, SqL.of (upd_keep hnu gD), hx0, _, _, rfl, rfl, (by show (0 : Int) < 6; decide), _, _, rfl, rfl, _, rfl, (by omega), (by omega), ?_⟩
    refine for_range (n := (1 + x0 % 6).toNat) (fun i σ H2 => ∃ (us : List V) (v3 v4 v5 v6 : Option V), σ = [some (.ref ow), some (.ref nu), some (.ref D), v3, v4, v5, v6] ∧ Same H H2 ∧ H2 D = some (.lst us) ∧ us.length = i) ⟨[], none, none, none, none, rfl, (Same.refl H).new gD, upd_same, rfl⟩ ?_ ?_
    · rintro i σ H2 hi ⟨us, v3, v4, v5, v6, rfl, s2, hD, hul⟩
      have hnu2 := s2 _ _ hnu
      have how2 := s2 _ _ how
      obtain ⟨x1, hx1, x10, _⟩ := atB hb (i := 0 + (i : Int) + 1) (by omega) (by omega)
      refine ⟨_, rfl, _, rfl, _, _, rfl, rfl, nu, _, _, _, rfl, rfl, SqL.of hnu2, hx1, ?_⟩
      refine ⟨_, rfl, _, _, rfl, rfl, ⟨by decide, by decide⟩, _, _, rfl, rfl, ⟨by decide, by decide, by decide⟩, _, _, rfl, rfl, (by show (0 : Int) < 10 ^ (17 : Int).toNat; decide), ?_⟩
      refine to_g ?_
      refine seq_ifJ (fun b H1 => Same H H1 ∧ H1 D = some (.lst us) ∧ (b = true → 0 < os.length)) (fun σ' H1 => ∃ v5 : V, σ' = [some (.ref ow), some (.ref nu), some (.ref D), some (.int (0 + (i : Int))), some (.int x1), some v5, v6] ∧ Same H H1 ∧ H1 D = some (.lst us)) ?_ ?_ ?_ ?_
      · refine tand_J (fun b H1 => H1 = H2) _ (fun Q' h => ?_) (fun H1 e Q' h => ?_) (fun H1 e => ?_)
        · exact ⟨_, rfl, _, _, rfl, rfl, (by show (0 : Int) < 4; decide), _, _, rfl, rfl, _, rfl, h _ _ rfl⟩
        · subst e
          refine ⟨_, rfl, (by show 0 ≤ sizeLine; decide), fun z gz => ⟨ow, z, _, rfl, rfl, SqL.of (upd_keep how2 gz), SqL.of upd_same, _, rfl, h _ _ ⟨s2.new gz, upd_keep hD gz, fun hb => ?_⟩⟩⟩
          cases os with
          | nil => cases hb
          | cons a b => simp
        · subst e
          exact ⟨s2, hD, fun z => by cases z⟩
      · rintro H1 ⟨s3, hD3, hne⟩ D' hJ
        have hol := hne rfl
        obtain ⟨y, hy, ey⟩ := atI_strs (l := os) (i := x1 / 4 % (os.length : Int)) (mod_in (by omega)).1 (mod_in (by omega)).2
        refine ⟨_, rfl, _, rfl, _, _, rfl, rfl, ⟨by decide, by decide⟩, _, rfl, ow, _, rfl, .inl (SqL.of (s3 _ _ how)), _, _, rfl, rfl, (by rw [List.length_map]; show (0 : Int) < (os.length : Int); omega), ow, _, _, _, rfl, rfl, SqL.of (s3 _ _ how), (by rw [List.length_map]; exact ey), ?_⟩
        exact hJ _ _ ⟨_, rfl, s3, hD3⟩
      · rintro H1 ⟨s3, hD3, hne⟩
        exact ⟨_, rfl, s3, hD3⟩
      · rintro σ' H1 ⟨v5, rfl, s3, hD3⟩
        have hnu3 := s3 _ _ hnu
        refine to_g ?_
        refine seq_ifJ (fun b H4 => H4 = H1) (fun σ' H4 => ∃ v6 : V, σ' = [some (.ref ow), some (.ref nu), some (.ref D), some (.int (0 + (i : Int))), some (.int x1), some v5, some v6] ∧ H4 = H1) ?_ ?_ ?_ ?_
        · refine tand_J (fun b H4 => H4 = H1) _ (fun Q' h => ?_) (fun H4 e Q' h => ?_) (fun H4 e => e)
          · exact ⟨_, rfl, _, _, rfl, rfl, _, rfl, h _ _ rfl⟩
          · subst e
            exact ⟨_, rfl, nu, _, _, _, rfl, rfl, SqL.of hnu3, hx0, _, rfl, _, _, rfl, rfl, .inl ⟨by decide, by decide⟩, _, _, rfl, rfl, _, _, rfl, rfl, ⟨by omega, by omega⟩, _, _, rfl, rfl, (by show (0 : Int) < 2; decide), rfl, _, rfl, h _ _ rfl⟩
        · rintro H4 rfl D' hJ
          exact ⟨_, rfl, hJ _ _ ⟨_, rfl, rfl⟩⟩
        · rintro H4 rfl
          exact ⟨_, rfl, rfl⟩
        · rintro σ' H4 ⟨v6, rfl, rfl⟩
          refine ⟨_, rfl, .inl ⟨rfl, _, SqL.of hD3⟩, _, rfl, _, rfl, (by show 2 ≤ sizeLine; decide), fun t gt => ?_⟩
          exact ⟨D, _, _, rfl, rfl, upd_keep hD3 gt, small1000 (by omega), _, _, _, _, _, rfl, (s3.new gt).put gD, upd_same, by rw [List.length_append, hul]; rfl⟩
    · rintro σ H2 ⟨us, v3, v4, v5, v6, rfl, s2, hD, hul⟩
      exact ⟨_, rfl, D, _, rfl, .inl ⟨SqL.of hD, fun t gt => q t _ (s2.new gt)⟩⟩
noncomputable def spRowK : Sp := fun vs H Q _ => ∃ (kd : Int) (ow nu : Addr) (os : List Str) (xs : List Int) (oth own : Str), vs = [.int kd, .ref nu, .str oth, .ref ow, .str own] ∧ H ow = some (.lst (os.map V.str)) ∧ H nu = some (.lst (xs.map V.int)) ∧ 9 ≤ xs.length ∧ xs.length ≤ 12 ∧ Bnd xs ∧
  ∀ (a : Addr) (k : Str) (y : V) (tl : List V) (H' : Hp), Same H H' → H' a = some (.tup (.str k :: y :: tl)) → k ≠ "part" → ((k = "do" ∨ k = "ask") → y = .str oth) → Q (.ref a) H'
theorem ok_row (T : Txt K mg) : L2.Cl P w K mg base 2 "_law_row" ["_law_kind", "_law_numbers", "_law_other", "_law_owns", "_law_own"] spRowK := by
  have C_law_sum := ok_sum (P := P) (w := w) (base := base) T
  refine Cl.of T.d_law_row sc_law_row (fun vs H Q E h => ?_) (fun _ _ _ _ _ _ us hl => match us, hl with | [_, _, _, _, _], _ => rfl) (fun f cdv A outer s H vs Q E hr h => ?_)
  · obtain ⟨kd, ow, nu, os, xs, oth, own, rfl, _⟩ := h
    rfl
  · obtain ⟨kd, ow, nu, os, xs, oth, own, rfl, how, hnu, hx9, hx12, hb, q⟩ := h
    have hu0 := Nat.lt_of_succ_lt (hu_of hr)
    refine ⟨_, (@pss_cons _ _ _ _ _ (@ps_set _ _ (5) _ _ _ _ sc_law_row.nd rfl (Or.inl rfl) (@pe_non _ _ _) (by rfl) (by first   | exact .inl rfl   | exact .inr rfl   | assumption)) (@pss_cons _ _ _ _ _ (@ps_if _ _ _ _ _ _ _ _ (PW.pt (@pw_and _ _ _ _ _ _ _ (@pt_cmpR _ _ _ _ _ _ _ _ (@op_neL_nil _ hu0) (@pv _ 3 _ _ (by rfl) (by first   | exact Or.inl rfl   | exact Or.inr (Or.inl rfl)   | exact Or.inr (Or.inr rfl)) (by decide) (by decide)) (@pe_lst _ _ _ _ (@pa_nil _)) (nomark _)) (@pw_and1 _ _ _ _ (@pt_cmpR _ _ _ _ _ _ _ _ (@op_eq _) (@pe_op _ _ _ _ _ _ _ _ (@op_mod _) (@pe_ix _ _ _ _ _ _ _ ix_list (@pv _ 1 _ _ (by rfl) (by first   | exact Or.inl rfl   | exact Or.inr (Or.inl rfl)   | exact Or.inr (Or.inr rfl)) (by decide) (by decide)) (@pe_int _ _ _ _) (fun _ _ => rfl)) (@pe_int _ _ _ _)) (@pe_int _ _ _ _) (nomark _))))) (@pss_one _ _ _ (@ps_set _ _ (5) _ _ _ _ sc_law_row.nd rfl (Or.inl rfl) (@pe_ix _ _ _ _ _ _ _ ix_list (@pv _ 3 _ _ (by rfl) (by first   | exact Or.inl rfl   | exact Or.inr (Or.inl rfl)   | exact Or.inr (Or.inr rfl)) (by decide) (by decide)) (@pe_op _ _ _ _ _ _ _ _ (@op_mod _) (@pe_op _ _ _ _ _ _ _ _ (@op_fdiv _) (@pe_ix _ _ _ _ _ _ _ ix_list (@pv _ 1 _ _ (by rfl) (by first   | exact Or.inl rfl   | exact Or.inr (Or.inl rfl)   | exact Or.inr (Or.inr rfl)) (by decide) (by decide)) (@pe_int _ _ _ _) (fun _ _ => rfl)) (@pe_int _ _ _ _)) (@pe_callB _ _ _ _ _ _ _ _ _ (@call_len_seq _) (by rfl) T.n_len PySem.boot_len (@pa_cons _ _ _ _ _ (@pv _ 3 _ _ (by rfl) (by first   | exact Or.inl rfl   | exact Or.inr (Or.inl rfl)   | exact Or.inr (Or.inr rfl)) (by decide) (by decide)) (@pa_nil _) (by rfl)) (by decide) (by decide) (by rfl) (by rfl))) (fun _ _ => rfl)) (by rfl) (by first   | exact .inl rfl   | exact .inr rfl   | assumption))) (@pss_nil _)) (@pss_cons _ _ _ _ _ (@ps_if _ _ _ _ _ _ _ _ (@pt_cmpR _ _ _ _ _ _ _ _ (@op_lt _) (@pv _ 0 _ _ (by rfl) (by first   | exact Or.inl rfl   | exact Or.inr (Or.inl rfl)   | exact Or.inr (Or.inr rfl)) (by decide) (by decide)) (@pe_int _ _ _ _) (nomark _)) (@pss_one _ _ _ (@ps_ret _ _ _ _ (@pe_tup _ _ _ _ _ (@pa_cons _ _ _ _ _ (@pe_str _ _ _ _) (@pa_cons _ _ _ _ _ (@pv _ 4 _ _ (by rfl) (by first   | exact Or.inl rfl   | exact Or.inr (Or.inl rfl)   | exact Or.inr (Or.inr rfl)) (by decide) (by decide)) (@pa_cons _ _ _ _ _ (@pe_fn _ _ _ _ _ _ _ _ _ _ _ C_law_sum hr (by rfl) (@pa_cons _ _ _ _ _ (@pv _ 3 _ _ (by rfl) (by first   | exact Or.inl rfl   | exact Or.inr (Or.inl rfl)   | exact Or.inr (Or.inr rfl)) (by decide) (by decide)) (@pa_cons _ _ _ _ _ (@pv _ 1 _ _ (by rfl) (by first   | exact Or.inl rfl   | exact Or.inr (Or.inl rfl)   | exact Or.inr (Or.inr rfl)) (by decide) (by decide)) (@pa_nil _) (by rfl)) (by rfl)) (by decide) (by decide) (by rfl) (by rfl)) (@pa_nil _) (by rfl)) (by rfl)) (by rfl))))) (@pss_nil _)) (@pss_cons _ _ _ _ _ (@ps_if _ _ _ _ _ _ _ _ (@pt_cmpR _ _ _ _ _ _ _ _ (@op_eq _) (@pv _ 0 _ _ (by rfl) (by first   | exact Or.inl rfl   | exact Or.inr (Or.inl rfl)   | exact Or.inr (Or.inr rfl)) (by decide) (by decide)) (@pe_int _ _ _ _) (nomark _)) (@pss_one _ _ _ (@ps_ret _ _ _ _ (@pe_tup _ _ _ _ _ (@pa_cons _ _ _ _ _ (@pe_str _ _ _ _) (@pa_cons _ _ _ _ _ (@pv _ 4 _ _ (by rfl) (by first   | exact Or.inl rfl   | exact Or.inr (Or.inl rfl)   | exact Or.inr (Or.inr rfl)) (by decide) (by decide)) (@pa_nil _) (by rfl)) (by rfl))))) (@pss_nil _)) (@pss_cons _ _ _ _ _ (@ps_if _ _ _ _ _ _ _ _ (@pt_cmpR _ _ _ _ _ _ _ _ (@op_lt _) (@pv _ 0 _ _ (by rfl) (by first   | exact Or.inl rfl   | exact Or.inr (Or.inl rfl)   | exact Or.inr (Or.inr rfl)) (by decide) (by decide)) (@pe_int _ _ _ _) (nomark _)) (@pss_one _ _ _ (@ps_ret _ _ _ _ (@pe_tup _ _ _ _ _ (@pa_cons _ _ _ _ _ (@pe_str _ _ _ _) (@pa_cons _ _ _ _ _ (@pe_fn _ _ _ _ _ _ _ _ _ _ _ C_law_sum hr (by rfl) (@pa_cons _ _ _ _ _ (@pv _ 3 _ _ (by rfl) (by first   | exact Or.inl rfl   | exact Or.inr (Or.inl rfl)   | exact Or.inr (Or.inr rfl)) (by decide) (by decide)) (@pa_cons _ _ _ _ _ (@pv _ 1 _ _ (by rfl) (by first   | exact Or.inl rfl   | exact Or.inr (Or.inl rfl)   | exact Or.inr (Or.inr rfl)) (by decide) (by decide)) (@pa_nil _) (by rfl)) (by rfl)) (by decide) (by decide) (by rfl) (by rfl)) (@pa_cons _ _ _ _ _ (@pv _ 5 _ _ (by rfl) (by first   | exact Or.inl rfl   | exact Or.inr (Or.inl rfl)   | exact Or.inr (Or.inr rfl)) (by decide) (by decide)) (@pa_nil _) (by rfl)) (by rfl)) (by rfl))))) (@pss_nil _)) (@pss_cons _ _ _ _ _ (@ps_if _ _ _ _ _ _ _ _ (@pt_cmpR _ _ _ _ _ _ _ _ (@op_eq _) (@pv _ 0 _ _ (by rfl) (by first   | exact Or.inl rfl   | exact Or.inr (Or.inl rfl)   | exact Or.inr (Or.inr rfl)) (by decide) (by decide)) (@pe_int _ _ _ _) (nomark _)) (@pss_one _ _ _ (@ps_ret _ _ _ _ (@pe_tup _ _ _ _ _ (@pa_cons _ _ _ _ _ (@pe_str _ _ _ _) (@pa_cons _ _ _ _ _ (@pe_fn _ _ _ _ _ _ _ _ _ _ _ C_law_sum hr (by rfl) (@pa_cons _ _ _ _ _ (@pv _ 3 _ _ (by rfl) (by first   | exact Or.inl rfl   | exact Or.inr (Or.inl rfl)   | exact Or.inr (Or.inr rfl)) (by decide) (by decide)) (@pa_cons _ _ _ _ _ (@pv _ 1 _ _ (by rfl) (by first   | exact Or.inl rfl   | exact Or.inr (Or.inl rfl)   | exact Or.inr (Or.inr rfl)) (by decide) (by decide)) (@pa_nil _) (by rfl)) (by rfl)) (by decide) (by decide) (by rfl) (by rfl)) (@pa_nil _) (by rfl)) (by rfl))))) (@pss_nil _)) (@pss_cons _ _ _ _ _ (@ps_if _ _ _ _ _ _ _ _ (@pt_cmpR _ _ _ _ _ _ _ _ (@op_lt _) (@pv _ 0 _ _ (by rfl) (by first   | exact Or.inl rfl   | exact Or.inr (Or.inl rfl)   | exact Or.inr (Or.inr rfl)) (by decide) (by decide)) (@pe_int _ _ _ _) (nomark _)) (@pss_one _ _ _ (@ps_ret _ _ _ _ (@pe_tup _ _ _ _ _ (@pa_cons _ _ _ _ _ (@pe_str _ _ _ _) (@pa_cons _ _ _ _ _ (@pv _ 2 _ _ (by rfl) (by first   | exact Or.inl rfl   | exact Or.inr (Or.inl rfl)   | exact Or.inr (Or.inr rfl)) (by decide) (by decide)) (@pa_cons _ _ _ _ _ (@pv _ 5 _ _ (by rfl) (by first   | exact Or.inl rfl   | exact Or.inr (Or.inl rfl)   | exact Or.inr (Or.inr rfl)) (by decide) (by decide)) (@pa_nil _) (by rfl)) (by rfl)) (by rfl))))) (@pss_nil _)) (@pss_one _ _ _ (@ps_ret _ _ _ _ (@pe_tup _ _ _ _ _ (@pa_cons _ _ _ _ _ (@pe_str _ _ _ _) (@pa_cons _ _ _ _ _ (@pv _ 2 _ _ (by rfl) (by first   | exact Or.inl rfl   | exact Or.inr (Or.inl rfl)   | exact Or.inr (Or.inr rfl)) (by decide) (by decide)) (@pa_nil _) (by rfl)) (by rfl)))))))))))), ?_⟩
    obtain ⟨x7, hx7, x70, _⟩ := atB hb (i := 7) (by omega) (by omega)
    refine to_g ?_
    refine seq_ifJ (fun b H1 => Same H H1 ∧ (b = true → 0 < os.length)) (fun σ' H1 => ∃ v5 : V, σ' = [some (.int kd), some (.ref nu), some (.str oth), some (.ref ow), some (.str own), some v5] ∧ Same H H1) ?_ ?_ ?_ ?_
    · refine tand_J (fun b H1 => Same H H1 ∧ (b = true → 0 < os.length)) _ (fun Q' h => ?_) (fun H1 e Q' h => ?_) (fun H1 e => ⟨e.1, fun z => by cases z⟩)
      · refine ⟨_, rfl, (by show 0 ≤ sizeLine; decide), fun z gz => ⟨ow, z, _, rfl, rfl, SqL.of (upd_keep how gz), SqL.of upd_same, _, rfl, h _ _ ⟨(Same.refl H).new gz, fun hb => ?_⟩⟩⟩
        cases os with
        | nil => cases hb
        | cons a b => simp
      · exact ⟨_, rfl, nu, _, _, _, rfl, rfl, SqL.of (e.1 _ _ hnu), hx7, _, _, rfl, rfl, (by show (0 : Int) < 2; decide), rfl, _, rfl, h _ _ ⟨e.1, fun _ => e.2 rfl⟩⟩
    · rintro H1 ⟨s1, hne⟩ D' hJ
      have hol := hne rfl
      obtain ⟨y, hy, ey⟩ := atI_strs (l := os) (i := x7 / 2 % (os.length : Int)) (mod_in (by omega)).1 (mod_in (by omega)).2
      refine ⟨_, rfl, _, rfl, nu, _, _, _, rfl, rfl, SqL.of (s1 _ _ hnu), hx7, _, _, rfl, rfl, ⟨by decide, by decide⟩, _, rfl, ow, _, rfl, .inl (SqL.of (s1 _ _ how)), _, _, rfl, rfl, (by rw [List.length_map]; show (0 : Int) < (os.length : Int); omega), ow, _, _, _, rfl, rfl, SqL.of (s1 _ _ how), (by rw [List.length_map]; exact ey), ?_⟩
      exact hJ _ _ ⟨_, rfl, s1⟩
    · rintro H1 ⟨s1, hne⟩
      exact ⟨_, rfl, s1⟩
    · rintro σ' H1 ⟨v5, rfl, s1⟩
      have how1 := s1 _ _ how
      have hnu1 := s1 _ _ hnu
      refine ⟨_, rfl, _, _, rfl, rfl, _, rfl, ite2 (fun _ => ?_) (fun _ => to_n ?_)⟩
      · refine ⟨_, rfl, _, rfl, _, rfl, ow, nu, os, xs, rfl, how1, hnu1, hx9, hx12, hb, fun t H2 s2 => ⟨(by show 3 ≤ sizeLine; decide), fun a ga => ?_⟩⟩
        exact q a _ _ _ _ ((s1.trans s2).new ga) upd_same (by decide +kernel) (fun z => by rcases z with z | z <;> exact absurd z (by decide +kernel))
      refine ⟨_, rfl, rfl, _, rfl, ite2 (fun _ => ?_) (fun _ => to_n ?_)⟩
      · refine ⟨_, rfl, (by show 2 ≤ sizeLine; decide), fun a ga => ?_⟩
        exact q a _ _ _ _ (s1.new ga) upd_same (by decide +kernel) (fun z => by rcases z with z | z <;> exact absurd z (by decide +kernel))
      refine ⟨_, rfl, _, _, rfl, rfl, _, rfl, ite2 (fun _ => ?_) (fun _ => to_n ?_)⟩
      · refine ⟨_, rfl, _, rfl, ow, nu, os, xs, rfl, how1, hnu1, hx9, hx12, hb, fun t H2 s2 => ⟨_, rfl, (by show 3 ≤ sizeLine; decide), fun a ga => ?_⟩⟩
        exact q a _ _ _ _ ((s1.trans s2).new ga) upd_same (by decide +kernel) (fun z => by rcases z with z | z <;> exact absurd z (by decide +kernel))
      refine ⟨_, rfl, rfl, _, rfl, ite2 (fun _ => ?_) (fun _ => to_n ?_)⟩
      · refine ⟨_, rfl, _, rfl, ow, nu, os, xs, rfl, how1, hnu1, hx9, hx12, hb, fun t H2 s2 => ⟨(by show 2 ≤ sizeLine; decide), fun a ga => ?_⟩⟩
        exact q a _ _ _ _ ((s1.trans s2).new ga) upd_same (by decide +kernel) (fun z => by rcases z with z | z <;> exact absurd z (by decide +kernel))
      refine ⟨_, rfl, _, _, rfl, rfl, _, rfl, ite2 (fun _ => ?_) (fun _ => ?_)⟩
      · refine ⟨_, rfl, _, rfl, (by show 3 ≤ sizeLine; decide), fun a ga => ?_⟩
        exact q a _ _ _ _ (s1.new ga) upd_same (by decide +kernel) (fun _ => rfl)
      · refine ⟨_, rfl, (by show 2 ≤ sizeLine; decide), fun a ga => ?_⟩
        exact q a _ _ _ _ (s1.new ga) upd_same (by decide +kernel) (fun _ => rfl)
theorem comp_new {K : PySem.W.Frag} {a : Addr} {xs : List V} {Qh : Hp → Prop} {v : Option V} {H : Hp} {D : Addr} (hl : H a = some (.lst xs)) (hD : H D = none) (hx : xs.length ≤ 900)
    (q : ∀ (as : List Addr) (H' : Hp), Same H H' → H' D = some (.lst (as.map V.ref)) → as.length = xs.length → as.Nodup → (∀ b ∈ as, H b = none ∧ b ≠ D ∧ H' b = some (.lst [])) → Qh H') :
    ∃ W : Nat → Nat → L2.St → Hp → Prop, (∃ m, W 0 m [v] (upd H D (.lst []))) ∧ ∀ i m σ2 H2, W i m σ2 H2 →
      ((Itl K a).stop i H2 ∧ Qh H2) ∨ ((Itl K a).go i H2 ∧ ∃ N : L2.St → Hp → Prop, (∀ σ' H', N σ' H' → ∃ m', m' < m ∧ W (i + 1) m' σ' H') ∧ ∀ x H3, (Itl K a).yld i H2 x H3 → gName 0 x σ2 H3 fun σ4 H4 => tNoTest σ4 H4 fun b H5 =>
        if b = true then tLst tNil σ4 H5 fun y H6 => ∃ ys, H6 D = some (.lst ys) ∧ ys.length < sizeLine ∧ N σ4 (upd H6 D (.lst (ys ++ [y]))) else N σ4 H5) := by
  refine comp_by xs.length (fun i σ H2 => ∃ (v0 : Option V) (as : List Addr), σ = [v0] ∧ Same H H2 ∧ H2 D = some (.lst (as.map V.ref)) ∧ as.length = i ∧ as.Nodup ∧ ∀ b ∈ as, H b = none ∧ b ≠ D ∧ H2 b = some (.lst [])) ⟨v, [], rfl, (Same.refl H).new hD, upd_same, rfl, List.nodup_nil, by simp⟩ ?_ ?_
  · rintro i σ H2 hi ⟨v0, as, rfl, s2, hD2, hlen, hnd, hall⟩
    refine ⟨⟨xs, xs[i], SqL.of (s2 _ _ hl), by simp⟩, ?_⟩
    rintro x H3 ⟨rfl, _⟩
    refine ntG ?_
    refine ⟨(by show 0 ≤ sizeLine; decide), fun p gp => ?_⟩
    have hpD : p ≠ D := fun z => by rw [z, hD2] at gp; cases gp
    have hD3 : upd H3 p (.lst []) D = some (.lst (as.map V.ref)) := upd_keep hD2 gp
    refine ⟨_, hD3, small1000 (by rw [List.length_map]; omega), _, as ++ [p], rfl, (s2.new gp).put hD, ?_, by rw [List.length_append, hlen]; rfl, ?_, ?_⟩
    · rw [upd_same, List.map_append]; rfl
    · rw [List.nodup_append]
      refine ⟨hnd, by simp, fun b hb c hc e => ?_⟩
      rw [List.mem_singleton.mp hc] at e
      have := (hall b hb).2.2
      rw [e, gp] at this
      cases this
    · intro b hb
      rcases List.mem_append.mp hb with z | z
      · obtain ⟨h1, h2, h3⟩ := hall b z
        exact ⟨h1, h2, by rw [upd_ne h2]; exact upd_keep h3 gp⟩
      · rw [List.mem_singleton.mp z]
        exact ⟨s2.free gp, hpD, by rw [upd_ne hpD, upd_same]⟩
  · rintro σ H2 ⟨v0, as, rfl, s2, hD2, hlen, hnd, hall⟩
    exact ⟨⟨xs, SqL.of (s2 _ _ hl), Nat.le_refl _⟩, q as H2 s2 hD2 hlen hnd hall⟩
theorem at_ref {l : List Addr} {i : Int} {n : Nat} (hn : l.length = n) (h0 : 0 ≤ i) (h1 : i < (n : Int)) : ∃ b ∈ l, atI (l.map V.ref) i = some (.ref b) := by
  obtain ⟨v, hv, e⟩ := atI_mem (l.map V.ref) h0 (by rw [List.length_map, hn]; exact h1)
  obtain ⟨b, hb, rfl⟩ := List.mem_map.mp hv
  exact ⟨b, hb, e⟩
noncomputable def DrAt (H : Hp) (v : V) (xs : List Int) : Prop := ∃ l, v = .ref l ∧ H l = some (.lst (xs.map V.int)) ∧ xs.length = 12 ∧ Bnd xs
noncomputable def lowK (xs : List Int) : Bool := decide (xs.getD 1 0 % 12 < 4)
noncomputable def cntL (dr : List (List Int)) : Nat := (dr.filter lowK).length
theorem cntL_snoc (A : List (List Int)) (xs : List Int) : cntL (A ++ [xs]) = cntL A + (if lowK xs = true then 1 else 0) := by
  unfold cntL
  rw [List.filter_append, List.length_append]
  by_cases h : lowK xs = true
  · rw [if_pos h, List.filter_cons_of_pos h]; rfl
  · rw [if_neg h, List.filter_cons_of_neg h]; rfl
theorem cntL_le (dr : List (List Int)) (i : Nat) : cntL (dr.take i) ≤ cntL dr := by
  unfold cntL
  exact ((List.take_sublist i dr).filter _).length_le
noncomputable def spBlocks : Sp := fun vs H Q _ => ∃ (c : Int) (cl : Addr) (cs : List Int), vs = [.int c, .ref cl] ∧ H cl = some (.lst (cs.map V.int)) ∧ cs.length ≤ 40 ∧
  ∀ (t nl bl : Addr) (ns : List Str) (bs : List (List Rk)) (H' : Hp), Same H H' → H' t = some (.tup [.ref nl, .ref bl]) → H' nl = some (.lst (ns.map V.str)) → BksAt ns H' bl bs → ns.Nodup → 1 ≤ ns.length → ns.length ≤ 12 → (∀ x ∈ ns, x.length ≤ 20) → Q (.ref t) H'
structure Gb (ns : List Str) (H0 : Hp) (B : Addr) (ba : List Addr) (j : Nat) (H : Hp) : Prop where
  sm : Same H0 H
  hB : H B = some (.lst (ba.map V.ref))
  rw : ∀ b ∈ ba, ∃ rs : List Rk, H b = some (.lst (rs.map fun r => V.ref r.a)) ∧ (∀ r ∈ rs, RkAt ns H r) ∧ rs.length ≤ j
theorem Gb.up {ns : List Str} {H0 : Hp} {B : Addr} {ba : List Addr} {j : Nat} {H H' : Hp} (g : Gb ns H0 B ba j H) (s : Same H H') : Gb ns H0 B ba j H' :=
  ⟨g.sm.trans s, s _ _ g.hB, fun b hb => by
    obtain ⟨rs, h1, h2, h3⟩ := g.rw b hb
    exact ⟨rs, s _ _ h1, fun r hr => (h2 r hr).mono s.tups, h3⟩⟩
theorem Gb.row {ns : List Str} {H0 : Hp} {B : Addr} {ba : List Addr} {j : Nat} {H : Hp} (g : Gb ns H0 B ba j H) (fr : ∀ b ∈ ba, H0 b = none ∧ b ≠ B) {b : Addr} (hb : b ∈ ba) {rs : List Rk} (hr : H b = some (.lst (rs.map fun r => V.ref r.a))) (hrs : ∀ r ∈ rs, RkAt ns H r) (hl : rs.length ≤ j) {r : Rk} (h : RkAt ns H r) :
    Gb ns H0 B ba (j + 1) (upd H b (.lst ((rs.map fun r => V.ref r.a) ++ [.ref r.a]))) := by
  have T := Tups.lst (ys := (rs.map fun r => V.ref r.a) ++ [.ref r.a]) hr
  refine ⟨g.sm.put (fr b hb).1, by rw [upd_ne (fr b hb).2.symm]; exact g.hB, fun c hc => ?_⟩
  by_cases e : c = b
  · subst e
    refine ⟨rs ++ [r], by rw [upd_same, List.map_append]; rfl, fun x hx => ?_, by rw [List.length_append]; simp; omega⟩
    rcases List.mem_append.mp hx with z | z
    · exact (hrs x z).mono T
    · rw [List.mem_singleton.mp z]; exact h.mono T
  · obtain ⟨rs1, h1, h2, h3⟩ := g.rw c hc
    exact ⟨rs1, by rw [upd_ne e]; exact h1, fun x hx => (h2 x hx).mono T, by omega⟩
theorem Gb.bks {ns : List Str} {H0 : Hp} {B : Addr} {ba : List Addr} {j : Nat} {H : Hp} (g : Gb ns H0 B ba j H) (hj : j ≤ 40) (hl : ba.length = ns.length) : ∃ bs, BksAt ns H B bs := by
  have : ∀ l : List Addr, (∀ b ∈ l, b ∈ ba) → ∃ bs : List (List Rk), Paired (BkAt ns H) (l.map V.ref) bs ∧ bs.length = l.length ∧ ∀ rs ∈ bs, rs.length ≤ 40 := by
    intro l
    induction l with
    | nil => exact fun _ => ⟨[], .nil, rfl, by simp⟩
    | cons a t ih =>
      intro h
      obtain ⟨bs, h1, h2, h3⟩ := ih fun b hb => h b (List.mem_cons_of_mem _ hb)
      obtain ⟨rs, g1, g2, g3⟩ := g.rw a (h a List.mem_cons_self)
      refine ⟨rs :: bs, .cons ⟨a, rfl, g1, g2⟩ h1, by simp [h2], fun x hx => ?_⟩
      rcases List.mem_cons.mp hx with z | z
      · rw [z]; omega
      · exact h3 x z
  obtain ⟨bs, h1, h2, h3⟩ := this ba fun b hb => hb
  exact ⟨bs, _, g.hB, h1, by omega, h3⟩
theorem atD {xs : List Int} (hb : Bnd xs) (hl : xs.length = 12) (k : Nat) (hk : k < 12) : atI (xs.map V.int) (k : Int) = some (.int (xs.getD k 0)) ∧ 0 ≤ xs.getD k 0 := by
  have e : xs[k]? = some xs[k] := List.getElem?_eq_getElem (by omega)
  have e2 : xs.getD k 0 = xs[k] := by rw [List.getD_eq_getElem?_getD, e]; rfl
  exact ⟨atI_nat (by rw [List.getElem?_map, e, e2]; rfl), by rw [e2]; exact (hb _ (List.getElem_mem _)).1⟩
noncomputable def DrB (D : Addr) (H : Hp) (v : V) (xs : List Int) : Prop := DrAt H v xs ∧ v ≠ .ref D
theorem dr_ne {D : Addr} {H : Hp} {us : List V} {dr : List (List Int)} {xs : List Int} (hP : Paired (DrB D H) us dr) (h : us = xs.map V.int) (hl : xs.length = 12) : False := by
  cases xs with
  | nil => cases hl
  | cons x t =>
    subst h
    cases hP with
    | cons h1 _ =>
      obtain ⟨⟨l, e, _⟩, _⟩ := h1
      cases e
theorem DrB.put {D : Addr} {H H' : Hp} {o : HO} {v : V} {xs : List Int} (s : Same H H') (h : DrB D H v xs) : DrB D (upd H' D o) v xs := by
  obtain ⟨⟨l, rfl, h2, h3⟩, h4⟩ := h
  exact ⟨⟨l, rfl, by rw [upd_ne (fun z => h4 (by rw [z]))]; exact s _ _ h2, h3⟩, h4⟩
theorem DrB.same {D : Addr} {H H' : Hp} {v : V} {xs : List Int} (s : Same H H') (h : DrB D H v xs) : DrB D H' v xs := by
  obtain ⟨⟨l, rfl, h2, h3⟩, h4⟩ := h
  exact ⟨⟨l, rfl, s _ _ h2, h3⟩, h4⟩
theorem ok_blocks (T : Txt K mg) : L2.Cl P w K mg base 3 "_law_blocks" ["_law_cell", "_law_cells"] spBlocks := by
  have C_law_names := ok_names (P := P) (w := w) (base := base) T
  have C_law_stream := ok_stream (P := P) (w := w) (base := base) T
  have C_law_row := ok_row (P := P) (w := w) (base := base) T
  refine Cl.of T.d_law_blocks sc_law_blocks (fun vs H Q E h => ?_) (fun _ _ _ _ _ _ us hl => by obtain ⟨a, b, rfl⟩ := len2 hl; rfl) (fun f cdv A outer s H vs Q E hr h => ?_)
  · obtain ⟨c, cl, cs, rfl, _⟩ := h
    rfl
  · obtain ⟨c, cl, cs, rfl, hcl, hcs, q⟩ := h
    refine ⟨_, (@pss_cons _ _ _ _ _ (@ps_set _ _ (2) _ _ _ _ sc_law_blocks.nd rfl (Or.inl rfl) (@pe_op _ _ _ _ _ _ _ _ (@op_add _) (@pe_int _ _ _ _) (@pe_op _ _ _ _ _ _ _ _ (@op_mod _) (@pv _ 0 _ _ (by rfl) (by first   | exact Or.inl rfl   | exact Or.inr (Or.inl rfl)   | exact Or.inr (Or.inr rfl)) (by decide) (by decide)) (@pe_int _ _ _ _))) (by rfl) (by first   | exact .inl rfl   | exact .inr rfl   | assumption)) (@pss_cons _ _ _ _ _ (@ps_if _ _ _ _ _ _ _ _ (@pt_cmpR _ _ _ _ _ _ _ _ (@op_eq _) (@pe_op _ _ _ _ _ _ _ _ (@op_mod _) (@pe_op _ _ _ _ _ _ _ _ (@op_fdiv _) (@pv _ 0 _ _ (by rfl) (by first   | exact Or.inl rfl   | exact Or.inr (Or.inl rfl)   | exact Or.inr (Or.inr rfl)) (by decide) (by decide)) (@pe_int _ _ _ _)) (@pe_int _ _ _ _)) (@pe_int _ _ _ _) (nomark _)) (@pss_one _ _ _ (@ps_set _ _ (2) _ _ _ _ sc_law_blocks.nd rfl (Or.inl rfl) (@pe_int _ _ _ _) (by rfl) (by first   | exact .inl rfl   | exact .inr rfl   | assumption))) (@pss_nil _)) (@pss_cons _ _ _ _ _ (@ps_set _ _ (3) _ _ _ _ sc_law_blocks.nd rfl (Or.inl rfl) (@pe_fn _ _ _ _ _ _ _ _ _ _ _ C_law_names hr (by rfl) (@pa_cons _ _ _ _ _ (@pe_op _ _ _ _ _ _ _ _ (@op_fdiv _) (@pv _ 0 _ _ (by rfl) (by first   | exact Or.inl rfl   | exact Or.inr (Or.inl rfl)   | exact Or.inr (Or.inr rfl)) (by decide) (by decide)) (@pe_int _ _ _ _)) (@pa_cons _ _ _ _ _ (@pv _ 2 _ _ (by rfl) (by first   | exact Or.inl rfl   | exact Or.inr (Or.inl rfl)   | exact Or.inr (Or.inr rfl)) (by decide) (by decide)) (@pa_nil _) (by rfl)) (by rfl)) (by decide) (by decide) (by rfl) (by rfl)) (by rfl) (by first   | exact .inl rfl   | exact .inr rfl   | assumption)) (@pss_cons _ _ _ _ _ (@ps_setC _ _ _ _ _ _ _ (["_law_one"]) ([none]) _ _ _ _ (4) _ _ _ (defScope s_law_blocks) ["_law_cell", "_law_cells", "_law_many", "_law_names_here", "_law_drawn", "_law_owns", "_law_blocks_here", "_law_made_here", "_law_numbers", "_law_at", "_law_kind", "_law_own", "_law_other"] ⟨rfl, by decide +kernel, by decide +kernel, by decide +kernel, rfl, by decide +kernel, by decide +kernel⟩ sc_law_blocks.nd rfl (Or.inl rfl) (@pi_list _ _ _ _ (@pv _ 1 _ _ (by rfl) (by first   | exact Or.inl rfl   | exact Or.inr (Or.inl rfl)   | exact Or.inr (Or.inr rfl)) (by decide) (by decide))) (fun _ _ _ _ _ _ => (@pg_name _ _ (0) _ (show (["_law_one"] : List Str).Nodup by decide +kernel) rfl (Or.inl rfl) (by first   | exact .inl rfl   | exact .inr rfl   | assumption))) (fun _ _ _ _ _ _ => @pts_nil _) (fun _ _ _ _ _ _ => (@pe_fn _ _ _ _ _ _ _ _ _ _ _ C_law_stream hr (by rfl) (@pa_cons _ _ _ _ _ (@pv _ 0 _ _ (by rfl) (by first   | exact Or.inl rfl   | exact Or.inr (Or.inl rfl)   | exact Or.inr (Or.inr rfl)) (by decide) (by decide)) (@pa_cons _ _ _ _ _ (@pe_int _ _ _ _) (@pa_nil _) (by rfl)) (by rfl)) (by decide) (by decide) (by rfl) (by rfl))) (by rfl) (by rfl) (by rfl) (by rfl) (by intro _; rfl) (by first   | exact .inl rfl   | exact .inr rfl   | assumption)) (@pss_cons _ _ _ _ _ (@ps_set _ _ (5) _ _ _ _ sc_law_blocks.nd rfl (Or.inl rfl) (@pe_fn _ _ _ _ _ _ _ _ _ _ _ C_law_names hr (by rfl) (@pa_cons _ _ _ _ _ (@pe_op _ _ _ _ _ _ _ _ (@op_fdiv _) (@pv _ 0 _ _ (by rfl) (by first   | exact Or.inl rfl   | exact Or.inr (Or.inl rfl)   | exact Or.inr (Or.inr rfl)) (by decide) (by decide)) (@pe_int _ _ _ _)) (@pa_cons _ _ _ _ _ (@pe_callB _ _ _ _ _ _ _ _ _ (@call_len_seq _) (by rfl) T.n_len PySem.boot_len (@pa_cons _ _ _ _ _ (@pe_comp _ _ _ _ _ _ _ (["_law_one"]) ([none]) _ _ _ _ (defScope s_law_blocks) ["_law_cell", "_law_cells", "_law_many", "_law_names_here", "_law_drawn", "_law_owns", "_law_blocks_here", "_law_made_here", "_law_numbers", "_law_at", "_law_kind", "_law_own", "_law_other"] ⟨rfl, by decide +kernel, by decide +kernel, by decide +kernel, rfl, by decide +kernel, by decide +kernel⟩ (@pi_list _ _ _ _ (@pv _ 4 _ _ (by rfl) (by first   | exact Or.inl rfl   | exact Or.inr (Or.inl rfl)   | exact Or.inr (Or.inr rfl)) (by decide) (by decide))) (fun _ _ _ _ _ _ => (@pg_name _ _ (0) _ (show (["_law_one"] : List Str).Nodup by decide +kernel) rfl (Or.inl rfl) (by first   | exact .inl rfl   | exact .inr rfl   | assumption))) (fun _ _ _ _ _ _ => (@pts_one _ _ _ (@pt_cmpR _ _ _ _ _ _ _ _ (@op_lt _) (@pe_op _ _ _ _ _ _ _ _ (@op_mod _) (@pe_ix _ _ _ _ _ _ _ (@ix_listK _ (K) rfl) (@pv _ 0 _ _ (by rfl) (by first   | exact Or.inl rfl   | exact Or.inr (Or.inl rfl)   | exact Or.inr (Or.inr rfl)) (by decide) (by decide)) (@pe_int _ _ _ _) (fun _ _ => rfl)) (@pe_int _ _ _ _)) (@pe_int _ _ _ _) (nomark _)))) (fun _ _ _ _ _ _ => (@pv _ 0 _ _ (by rfl) (by first   | exact Or.inl rfl   | exact Or.inr (Or.inl rfl)   | exact Or.inr (Or.inr rfl)) (by decide) (by decide))) (by rfl) (by rfl) (by rfl) (by intro _; rfl)) (@pa_nil _) (by rfl)) (by decide) (by decide) (by rfl) (by rfl)) (@pa_nil _) (by rfl)) (by rfl)) (by decide) (by decide) (by rfl) (by rfl)) (by rfl) (by first   | exact .inl rfl   | exact .inr rfl   | assumption)) (@pss_cons _ _ _ _ _ (@ps_setC _ _ _ _ _ _ _ (["_law_name"]) ([none]) _ _ _ _ (6) _ _ _ (defScope s_law_blocks) ["_law_cell", "_law_cells", "_law_many", "_law_names_here", "_law_drawn", "_law_owns", "_law_blocks_here", "_law_made_here", "_law_numbers", "_law_at", "_law_kind", "_law_own", "_law_other"] ⟨rfl, by decide +kernel, by decide +kernel, by decide +kernel, rfl, by decide +kernel, by decide +kernel⟩ sc_law_blocks.nd rfl (Or.inl rfl) (@pi_list _ _ _ _ (@pv _ 3 _ _ (by rfl) (by first   | exact Or.inl rfl   | exact Or.inr (Or.inl rfl)   | exact Or.inr (Or.inr rfl)) (by decide) (by decide))) (fun _ _ _ _ _ _ => (@pg_name _ _ (0) _ (show (["_law_name"] : List Str).Nodup by decide +kernel) rfl (Or.inl rfl) (by first   | exact .inl rfl   | exact .inr rfl   | assumption))) (fun _ _ _ _ _ _ => @pts_nil _) (fun _ _ _ _ _ _ => (@pe_lst _ _ _ _ (@pa_nil _))) (by rfl) (by rfl) (by rfl) (by rfl) (by intro _; rfl) (by first   | exact .inl rfl   | exact .inr rfl   | assumption)) (@pss_cons _ _ _ _ _ (@ps_set _ _ (7) _ _ _ _ sc_law_blocks.nd rfl (Or.inl rfl) (@pe_int _ _ _ _) (by rfl) (by first   | exact .inl rfl   | exact .inr rfl   | assumption)) (@pss_cons _ _ _ _ _ (@ps_for _ _ _ _ _ _ _ _ PassesOwn.never rfl (@pi_list _ _ _ _ (@pv _ 4 _ _ (by rfl) (by first   | exact Or.inl rfl   | exact Or.inr (Or.inl rfl)   | exact Or.inr (Or.inr rfl)) (by decide) (by decide))) (@pg_name _ _ (8) _ sc_law_blocks.nd rfl (Or.inl rfl) (by first   | exact .inl rfl   | exact .inr rfl   | assumption)) (@pss_cons _ _ _ _ _ (@ps_set _ _ (9) _ _ _ _ sc_law_blocks.nd rfl (Or.inl rfl) (@pe_op _ _ _ _ _ _ _ _ (@op_mod _) (@pe_ix _ _ _ _ _ _ _ ix_list (@pv _ 8 _ _ (by rfl) (by first   | exact Or.inl rfl   | exact Or.inr (Or.inl rfl)   | exact Or.inr (Or.inr rfl)) (by decide) (by decide)) (@pe_int _ _ _ _) (fun _ _ => rfl)) (@pv _ 2 _ _ (by rfl) (by first   | exact Or.inl rfl   | exact Or.inr (Or.inl rfl)   | exact Or.inr (Or.inr rfl)) (by decide) (by decide))) (by rfl) (by first   | exact .inl rfl   | exact .inr rfl   | assumption)) (@pss_cons _ _ _ _ _ (@ps_set _ _ (10) _ _ _ _ sc_law_blocks.nd rfl (Or.inl rfl) (@pe_op _ _ _ _ _ _ _ _ (@op_mod _) (@pe_ix _ _ _ _ _ _ _ ix_list (@pv _ 8 _ _ (by rfl) (by first   | exact Or.inl rfl   | exact Or.inr (Or.inl rfl)   | exact Or.inr (Or.inr rfl)) (by decide) (by decide)) (@pe_int _ _ _ _) (fun _ _ => rfl)) (@pe_int _ _ _ _)) (by rfl) (by first   | exact .inl rfl   | exact .inr rfl   | assumption)) (@pss_cons _ _ _ _ _ (@ps_if _ _ _ _ _ _ _ _ (PW.pt (@pw_and _ _ _ _ _ _ _ (@pt_cmpR _ _ _ _ _ _ _ _ (@op_eq _) (@pv _ 2 _ _ (by rfl) (by first   | exact Or.inl rfl   | exact Or.inr (Or.inl rfl)   | exact Or.inr (Or.inr rfl)) (by decide) (by decide)) (@pe_int _ _ _ _) (nomark _)) (@pw_and1 _ _ _ _ (@pt_cmpR _ _ _ _ _ _ _ _ (@op_gt _) (@pv _ 10 _ _ (by rfl) (by first   | exact Or.inl rfl   | exact Or.inr (Or.inl rfl)   | exact Or.inr (Or.inr rfl)) (by decide) (by decide)) (@pe_int _ _ _ _) (nomark _))))) (@pss_one _ _ _ (@ps_set _ _ (10) _ _ _ _ sc_law_blocks.nd rfl (Or.inl rfl) (@pe_int _ _ _ _) (by rfl) (by first   | exact .inl rfl   | exact .inr rfl   | assumption))) (@pss_nil _)) (@pss_cons _ _ _ _ _ (@ps_set _ _ (11) _ _ _ _ sc_law_blocks.nd rfl (Or.inl rfl) (@pe_str _ _ _ _) (by rfl) (by first   | exact .inl rfl   | exact .inr rfl   | assumption)) (@pss_cons _ _ _ _ _ (@ps_if _ _ _ _ _ _ _ _ (@pt_cmpR _ _ _ _ _ _ _ _ (@op_lt _) (@pv _ 10 _ _ (by rfl) (by first   | exact Or.inl rfl   | exact Or.inr (Or.inl rfl)   | exact Or.inr (Or.inr rfl)) (by decide) (by decide)) (@pe_int _ _ _ _) (nomark _)) (@pss_cons _ _ _ _ _ (@ps_set _ _ (11) _ _ _ _ sc_law_blocks.nd rfl (Or.inl rfl) (@pe_ix _ _ _ _ _ _ _ ix_list (@pv _ 5 _ _ (by rfl) (by first   | exact Or.inl rfl   | exact Or.inr (Or.inl rfl)   | exact Or.inr (Or.inr rfl)) (by decide) (by decide)) (@pv _ 7 _ _ (by rfl) (by first   | exact Or.inl rfl   | exact Or.inr (Or.inl rfl)   | exact Or.inr (Or.inr rfl)) (by decide) (by decide)) (fun _ _ => rfl)) (by rfl) (by first   | exact .inl rfl   | exact .inr rfl   | assumption)) (@pss_one _ _ _ (@ps_set _ _ (7) _ _ _ _ sc_law_blocks.nd rfl (Or.inl rfl) (@pe_op _ _ _ _ _ _ _ _ (@op_add _) (@pv _ 7 _ _ (by rfl) (by first   | exact Or.inl rfl   | exact Or.inr (Or.inl rfl)   | exact Or.inr (Or.inr rfl)) (by decide) (by decide)) (@pe_int _ _ _ _)) (by rfl) (by first   | exact .inl rfl   | exact .inr rfl   | assumption)))) (@pss_nil _)) (@pss_cons _ _ _ _ _ (@ps_set _ _ (12) _ _ _ _ sc_law_blocks.nd rfl (Or.inl rfl) (@pe_ix _ _ _ _ _ _ _ ix_list (@pv _ 3 _ _ (by rfl) (by first   | exact Or.inl rfl   | exact Or.inr (Or.inl rfl)   | exact Or.inr (Or.inr rfl)) (by decide) (by decide)) (@pe_op _ _ _ _ _ _ _ _ (@op_mod _) (@pe_op _ _ _ _ _ _ _ _ (@op_add _) (@pe_op _ _ _ _ _ _ _ _ (@op_add _) (@pv _ 9 _ _ (by rfl) (by first   | exact Or.inl rfl   | exact Or.inr (Or.inl rfl)   | exact Or.inr (Or.inr rfl)) (by decide) (by decide)) (@pe_int _ _ _ _)) (@pe_op _ _ _ _ _ _ _ _ (@op_mod _) (@pe_ix _ _ _ _ _ _ _ ix_list (@pv _ 8 _ _ (by rfl) (by first   | exact Or.inl rfl   | exact Or.inr (Or.inl rfl)   | exact Or.inr (Or.inr rfl)) (by decide) (by decide)) (@pe_int _ _ _ _) (fun _ _ => rfl)) (@pe_callB _ _ _ _ _ _ _ _ _ (@call_max2 _ rfl) (by rfl) T.n_max boot_max (@pa_cons _ _ _ _ _ (@pe_int _ _ _ _) (@pa_cons _ _ _ _ _ (@pe_op _ _ _ _ _ _ _ _ (@op_sub _) (@pv _ 2 _ _ (by rfl) (by first   | exact Or.inl rfl   | exact Or.inr (Or.inl rfl)   | exact Or.inr (Or.inr rfl)) (by decide) (by decide)) (@pe_int _ _ _ _)) (@pa_nil _) (by rfl)) (by rfl)) (by decide) (by decide) (by rfl) (by rfl)))) (@pv _ 2 _ _ (by rfl) (by first   | exact Or.inl rfl   | exact Or.inr (Or.inl rfl)   | exact Or.inr (Or.inr rfl)) (by decide) (by decide))) (fun _ _ => rfl)) (by rfl) (by first   | exact .inl rfl   | exact .inr rfl   | assumption)) (@pss_one _ _ _ (@ps_expr _ _ _ _ (@pe_bm _ _ _ _ _ _ _ _ _ _ _ _ PySem.F.plainAttrs_list PySem.F.slot_list_append PySem.F.type_list_append (@mt_append _) (@pe_ix _ _ _ _ _ _ _ ix_list (@pv _ 6 _ _ (by rfl) (by first   | exact Or.inl rfl   | exact Or.inr (Or.inl rfl)   | exact Or.inr (Or.inr rfl)) (by decide) (by decide)) (@pv _ 9 _ _ (by rfl) (by first   | exact Or.inl rfl   | exact Or.inr (Or.inl rfl)   | exact Or.inr (Or.inr rfl)) (by decide) (by decide)) (fun _ _ => rfl)) (@pa_cons _ _ _ _ _ (@pe_fn _ _ _ _ _ _ _ _ _ _ _ C_law_row hr (by rfl) (@pa_cons _ _ _ _ _ (@pv _ 10 _ _ (by rfl) (by first   | exact Or.inl rfl   | exact Or.inr (Or.inl rfl)   | exact Or.inr (Or.inr rfl)) (by decide) (by decide)) (@pa_cons _ _ _ _ _ (@pe_slice _ _ _ _ _ _ _ _ _ _ sl_list (@pv _ 8 _ _ (by rfl) (by first   | exact Or.inl rfl   | exact Or.inr (Or.inl rfl)   | exact Or.inr (Or.inr rfl)) (by decide) (by decide)) (@po_some _ _ _ (@pe_int _ _ _ _)) (@po_none _)) (@pa_cons _ _ _ _ _ (@pv _ 12 _ _ (by rfl) (by first   | exact Or.inl rfl   | exact Or.inr (Or.inl rfl)   | exact Or.inr (Or.inr rfl)) (by decide) (by decide)) (@pa_cons _ _ _ _ _ (@pv _ 5 _ _ (by rfl) (by first   | exact Or.inl rfl   | exact Or.inr (Or.inl rfl)   | exact Or.inr (Or.inr rfl)) (by decide) (by decide)) (@pa_cons _ _ _ _ _ (@pv _ 11 _ _ (by rfl) (by first   | exact Or.inl rfl   | exact Or.inr (Or.inl rfl)   | exact Or.inr (Or.inr rfl)) (by decide) (by decide)) (@pa_nil _) (by rfl)) (by rfl)) (by rfl)) (by rfl)) (by rfl)) (by decide) (by decide) (by rfl) (by rfl)) (@pa_nil _) (by rfl)) (by rfl) (by rfl) (by rfl) (by rfl) (by rfl)) (by rfl))))))))) (by intro _; rfl)) (@pss_one _ _ _ (@ps_ret _ _ _ _ (@pe_tup _ _ _ _ _ (@pa_cons _ _ _ _ _ (@pv _ 3 _ _ (by rfl) (by first   | exact Or.inl rfl   | exact Or.inr (Or.inl rfl)   | exact Or.inr (Or.inr rfl)) (by decide) (by decide)) (@pa_cons _ _ _ _ _ (@pv _ 6 _ _ (by rfl) (by first   | exact Or.inl rfl   | exact Or.inr (Or.inl rfl)   | exact Or.inr (Or.inr rfl)) (by decide) (by decide)) (@pa_nil _) (by rfl)) (by rfl))))))))))))), ?_⟩
    have c6 := mod_in (i := c) (n := 6) (by decide)
    refine ⟨_, rfl, _, _, rfl, rfl, (by show (0 : Int) < 6; decide), _, _, rfl, rfl, ?_⟩
    refine to_g ?_
    refine seq_ifJ (fun b H1 => H1 = H) (fun σ' H1 => ∃ m : Int, σ' = [some (.int c), some (.ref cl), some (.int m), none, none, none, none, none, none, none, none, none, none] ∧ H1 = H ∧ 1 ≤ m ∧ m ≤ 12) ?_ ?_ ?_ ?_
    · exact fun Q' h => ⟨_, rfl, _, _, rfl, rfl, ⟨by decide, by decide⟩, _, _, rfl, rfl, (by show (0 : Int) < 8; decide), rfl, _, rfl, h _ _ rfl⟩
    · rintro H1 rfl D' hJ
      exact hJ _ _ ⟨12, rfl, rfl, by decide, by decide⟩
    · rintro H1 rfl
      exact ⟨1 + c % 6, rfl, rfl, by omega, by omega⟩
    rintro σ' H1 ⟨m, rfl, rfl, hm1, hm2⟩
    refine ⟨_, rfl, _, _, rfl, rfl, ⟨by decide, by decide⟩, _, rfl, c / 48, m, rfl, by omega, by omega, fun nl ns H2 s2 _ hnl hnsl hnd hnle => ?_⟩
    have hnd' := hnd (by omega)
    have hcl2 := s2 _ _ hcl
    refine ⟨_, rfl, cl, rfl, ⟨_, SqL.of hcl2⟩, fun D gD => comp_lst (K := K) (a := cl) (xs := cs.map V.int) (fun i σ H3 => ∃ (v0 : Option V) (us : List V) (dr : List (List Int)), σ = [v0] ∧ Same H2 H3 ∧ H3 D = some (.lst us) ∧ Paired (DrB D H3) us dr ∧ dr.length = i) ⟨_, [], [], rfl, (Same.refl H2).new gD, upd_same, .nil, rfl⟩ (fun i σ H3 ⟨_, _, _, _, s3, _⟩ => SqL.of (s3 _ _ hcl2)) ?_ ?_⟩
    · rintro i x σ H3 hx ⟨v0, us, dr, rfl, s3, hD, hus, hdl⟩
      rw [List.getElem?_map] at hx
      obtain ⟨z, hz, rfl⟩ := Option.map_eq_some_iff.mp hx
      have hi : i < cs.length := (List.getElem?_eq_some_iff.mp hz).1
      refine ntG ?_
      refine ⟨_, rfl, z, 12, rfl, by decide, by decide, fun l xs H4 s4 hl hxl hb => ?_⟩
      have hD4 := s4 _ _ hD
      have hul := Paired.length hus
      have hlD : l ≠ D := fun e => by
        subst e
        rw [hl] at hD4
        exact dr_ne hus (HO.lst.inj (Option.some.inj hD4)).symm (by omega)
      refine ⟨us, hD4, small1000 (by omega), _, us ++ [.ref l], dr ++ [xs], rfl, (s3.trans s4).put gD, upd_same, Paired.snoc (Paired.mapP hus fun v xs' h => h.put s4) ⟨⟨l, rfl, by rw [upd_ne hlD]; exact hl, by omega, hb⟩, fun z => hlD (V.ref.inj z)⟩, by rw [List.length_append, hdl]; rfl⟩
    · rintro σ H3 ⟨v0, us, dr, rfl, s3, hD, hus, hdl⟩
      rw [List.length_map] at hdl
      have hul := Paired.length hus
      have hnl3 := s3 _ _ hnl
      refine ⟨_, rfl, _, _, rfl, rfl, ⟨by decide, by decide⟩, _, rfl, D, rfl, ⟨_, SqL.of hD⟩, fun D2 gD2 => comp_lst (K := K) (a := D) (xs := us) (fun i σ H4 => ∃ (v0 : Option V) (ys : List V), σ = [v0] ∧ Same H3 H4 ∧ H4 D2 = some (.lst ys) ∧ ys.length = cntL (dr.take i)) ⟨_, [], rfl, (Same.refl H3).new gD2, upd_same, rfl⟩ (fun i σ H4 ⟨_, _, _, s4, _⟩ => SqL.of (s4 _ _ hD)) ?_ ?_⟩
      · rintro i x σ H4 hx ⟨v0', ys, rfl, s4, hD4, hyl⟩
        obtain ⟨xs, hxs, ⟨l, rfl, hl, hl12, hb⟩, _⟩ := Paired.get? hus hx
        have hi : i < us.length := (List.getElem?_eq_some_iff.mp hx).1
        obtain ⟨a1, a10⟩ := atD hb hl12 1 (by decide)
        have hcl : cntL (dr.take i) ≤ 40 := by
          unfold cntL
          have := List.length_filter_le lowK (dr.take i)
          rw [List.length_take] at this
          omega
        refine ⟨_, rfl, l, _, _, _, rfl, rfl, SqL.of (s4 _ _ hl), a1, _, _, rfl, rfl, (by show (0 : Int) < 12; decide), _, _, rfl, rfl, _, rfl, ?_⟩
        by_cases hlow : lowK xs = true
        · rw [show decide (xs.getD 1 0 % 12 < 4) = true from hlow]
          refine iteT ?_
          refine ⟨_, rfl, ys, hD4, small1000 (by omega), _, _, rfl, s4.put gD2, upd_same, ?_⟩
          rw [List.length_append, take_succ_get hxs, cntL_snoc, if_pos hlow, hyl]
          rfl
        · rw [show decide (xs.getD 1 0 % 12 < 4) = false from Bool.eq_false_iff.mpr hlow]
          refine iteF ?_
          refine ⟨_, _, rfl, s4, hD4, ?_⟩
          rw [take_succ_get hxs, cntL_snoc, if_neg hlow, hyl]
          rfl
      · rintro σ H4 ⟨v0', ys, rfl, s4, hD4, hyl⟩
        rw [hul, List.take_length] at hyl
        have hcl : cntL dr ≤ 40 := by
          unfold cntL
          have := List.length_filter_le lowK dr
          omega
        refine ⟨D2, _, rfl, .inl (SqL.of hD4), c / 7, _, rfl, by omega, by omega, fun ol os H5 s5 _ hol hosl _ _ => ?_⟩
        have s35 := s4.trans s5
        have hnl5 := s35 _ _ hnl3
        have hxl : (ns.map V.str).length ≤ 900 := by rw [List.length_map]; omega
        refine ⟨_, rfl, nl, rfl, ⟨_, SqL.of hnl5⟩, fun B gB => comp_new (K := K) hnl5 gB hxl fun ba H6 s6 hB6 hba hbaN hbaA => ?_⟩
        rw [List.length_map] at hba
        have hD6 := s6 _ _ (s35 _ _ hD)
        have hus6 : Paired (DrB D H6) us dr := Paired.mapP hus fun _ _ z => z.same (s35.trans s6)
        have fr : ∀ b ∈ ba, H5 b = none ∧ b ≠ B := fun b hb => ⟨(hbaA b hb).1, (hbaA b hb).2.1⟩
        have g0 : Gb ns H5 B ba 0 H6 := ⟨s6, hB6, fun b hb => ⟨[], (hbaA b hb).2.2, by simp, by simp⟩⟩
        refine ⟨_, rfl, D, rfl, ⟨_, SqL.of hD6⟩, ?_⟩
        refine for_list (K := K) (a := D) (xs := us) (fun i σ H7 => ∃ v8 v9 v10 v11 v12 : Option V, σ = [some (.int c), some (.ref cl), some (.int m), some (.ref nl), some (.ref D), some (.ref ol), some (.ref B), some (.int (cntL (dr.take i) : Int)), v8, v9, v10, v11, v12] ∧ Gb ns H5 B ba i H7) ⟨_, _, _, _, _, rfl, g0⟩ (fun i σ H7 _ ⟨_, _, _, _, _, _, g⟩ => SqL.of (g.sm _ _ (s35 _ _ hD))) ?_ ?_
        · rintro i x σ H7 hx ⟨v8, v9, v10, v11, v12, rfl, g7⟩
          have hi : i < us.length := (List.getElem?_eq_some_iff.mp hx).1
          obtain ⟨xs, hxs, ⟨l, rfl, hl0, hl12, hb⟩, _⟩ := Paired.get? hus6 hx
          have hl : H7 l = some (.lst (xs.map V.int)) := by
            obtain ⟨xs', hxs', ⟨l', e', hl', _⟩, _⟩ := Paired.get? hus hx
            cases e'
            have e2 := s6 _ _ (s35 _ _ hl')
            rw [hl0] at e2
            rw [e2]
            exact g7.sm _ _ (s35 _ _ hl')
          obtain ⟨a0, a00⟩ := atD hb hl12 0 (by decide)
          obtain ⟨a1, a10⟩ := atD hb hl12 1 (by decide)
          obtain ⟨a2, a20⟩ := atD hb hl12 2 (by decide)
          have mm := mod_in (i := xs.getD 0 0) (n := m) (by omega)
          have m12 := mod_in (i := xs.getD 1 0) (n := 12) (by decide)
          have hlo : lowK xs = decide (xs.getD 1 0 % 12 < 4) := rfl
          generalize xs.getD 0 0 = x0 at a0 a00 mm
          generalize xs.getD 1 0 = x1 at a1 a10 m12 hlo
          generalize xs.getD 2 0 = x2 at a2 a20
          have hol7 := g7.sm _ _ hol
          have hnl7 := g7.sm _ _ hnl5
          refine ⟨_, rfl, l, _, _, _, rfl, rfl, SqL.of hl, a0, _, rfl, _, _, rfl, rfl, (by show (0 : Int) < m; omega), ?_⟩
          refine ⟨_, rfl, l, _, _, _, rfl, rfl, SqL.of hl, a1, _, _, rfl, rfl, (by show (0 : Int) < 12; decide), ?_⟩
          refine to_g ?_
          refine seq_ifJ (fun b H8 => H8 = H7 ∧ (b = true → 7 < x1 % 12)) (fun σ' H8 => ∃ kd : Int, σ' = [some (.int c), some (.ref cl), some (.int m), some (.ref nl), some (.ref D), some (.ref ol), some (.ref B), some (.int (cntL (dr.take i) : Int)), some (.ref l), some (.int (x0 % m)), some (.int kd), v11, v12] ∧ H8 = H7 ∧ (kd < 4 ↔ x1 % 12 < 4)) ?_ ?_ ?_ ?_
          · refine tand_J (fun b H8 => H8 = H7) _ (fun Q' h => ?_) (fun H8 e Q' h => ?_) (fun H8 e => ⟨e, fun z => by cases z⟩)
            · exact ⟨_, rfl, rfl, _, rfl, h _ _ rfl⟩
            · subst e
              exact ⟨_, rfl, _, _, rfl, rfl, _, rfl, h _ _ ⟨rfl, fun z => of_decide_eq_true z⟩⟩
          · rintro H8 ⟨rfl, h7⟩ D' hJ
            have := h7 rfl
            exact hJ _ _ ⟨4, rfl, rfl, by omega⟩
          · rintro H8 ⟨rfl, _⟩
            exact ⟨_, rfl, rfl, Iff.rfl⟩
          rintro σ' H8 ⟨kd, rfl, rfl, hkd⟩
          refine to_g ?_
          have hcn : cntL (dr.take (i + 1)) = cntL (dr.take i) + (if lowK xs = true then 1 else 0) := by rw [take_succ_get hxs, cntL_snoc]
          have hle := cntL_le dr (i + 1)
          refine seq_ifJ (fun b H9 => H9 = H8 ∧ b = decide (kd < 4)) (fun σ' H9 => ∃ own : Str, σ' = [some (.int c), some (.ref cl), some (.int m), some (.ref nl), some (.ref D), some (.ref ol), some (.ref B), some (.int (cntL (dr.take (i + 1)) : Int)), some (.ref l), some (.int (x0 % m)), some (.int kd), some (.str own), v12] ∧ H9 = H8) ?_ ?_ ?_ ?_
          · exact fun Q' h => ⟨_, rfl, _, _, rfl, rfl, _, rfl, h _ _ ⟨rfl, rfl⟩⟩
          · rintro H9 ⟨rfl, hk4⟩ D' hJ
            have hk4' := of_decide_eq_true hk4.symm
            have hl1 : lowK xs = true := by rw [hlo]; exact decide_eq_true (hkd.mp hk4')
            rw [if_pos hl1] at hcn
            obtain ⟨y, hy, ey⟩ := atI_strs (l := os) (i := (cntL (dr.take i) : Int)) (by omega) (by omega)
            refine ⟨_, rfl, _, rfl, ol, _, _, _, rfl, rfl, SqL.of hol7, ey, ?_⟩
            refine ⟨_, rfl, _, _, rfl, rfl, hJ _ _ ⟨y, ?_, rfl⟩⟩
            rw [hcn]
            rfl
          · rintro H9 ⟨rfl, hk4⟩
            have hk4' := of_decide_eq_false hk4.symm
            have hl1 : ¬ lowK xs = true := by rw [hlo]; exact fun z => hk4' (hkd.mpr (of_decide_eq_true z))
            rw [if_neg hl1] at hcn
            refine ⟨"", ?_, rfl⟩
            rw [hcn]
            rfl
          rintro σ' H9 ⟨own, rfl, rfl⟩
          have hmax : (if (m - 1) > (1 : Int) then m - 1 else 1) ≥ 1 := by split <;> omega
          have hoth := mod_in (i := x0 % m + 1 + x2 % (if (m - 1) > (1 : Int) then m - 1 else 1)) (n := m) (by omega)
          obtain ⟨oth, hothN, eoth⟩ := atI_strs (l := ns) hoth.1 (by rw [hnsl]; exact hoth.2)
          refine ⟨_, rfl, _, rfl, _, _, rfl, rfl, _, rfl, l, _, _, _, rfl, rfl, SqL.of hl, a2, _, rfl, _, _, rfl, rfl, _, _, rfl, _, _, rfl, rfl, hmax, _, _, rfl, rfl, _, rfl, _, _, rfl, rfl, (by show (0 : Int) < m; omega), nl, _, _, _, rfl, rfl, SqL.of hnl7, eoth, ?_⟩
          obtain ⟨b, hbm, eb⟩ := at_ref (n := ba.length) rfl mm.1 (by rw [hba, hnsl]; exact mm.2)
          obtain ⟨rs, hbH, hrs, hrl⟩ := g7.rw b hbm
          refine ⟨_, rfl, _, rfl, B, _, _, _, rfl, rfl, SqL.of g7.hB, eb, .inl ⟨rfl, _, SqL.of hbH⟩, _, rfl, _, rfl, _, rfl, l, _, rfl, SqL.of hl, fun nu gnu => ?_⟩
          have e3 : cutV (xs.map V.int) (some 3) none = (xs.drop 3).map V.int := (cut_from _ 3 (by rw [List.length_map]; omega)).trans (List.map_drop ..).symm
          rw [e3]
          have s9 : Same H9 (upd H9 nu (.lst ((xs.drop 3).map V.int))) := (Same.refl H9).new gnu
          refine ⟨_, rfl, _, rfl, _, rfl, kd, ol, nu, os, xs.drop 3, oth, own, rfl, s9 _ _ hol7, upd_same, by rw [List.length_drop]; omega, by rw [List.length_drop]; omega, fun n hn => hb n (List.mem_of_mem_drop hn), fun a k y tl H10 s10 ha hk hto => ?_⟩
          have g10 := g7.up (s9.trans s10)
          have hr10 : RkAt ns H10 ⟨a, k, some oth⟩ := ⟨y, tl, ha, hk, fun z => ⟨oth, hothN, rfl, hto z⟩⟩
          refine ⟨b, _, _, rfl, rfl, s10 _ _ (s9 _ _ hbH), small1000 (by rw [List.length_map]; omega), _, _, _, _, _, rfl, ?_⟩
          exact g10.row fr hbm (s10 _ _ (s9 _ _ hbH)) (fun r hr => (hrs r hr).mono (s9.trans s10).tups) hrl hr10
        · rintro σ H7 ⟨v8, v9, v10, v11, v12, rfl, g7⟩
          obtain ⟨bs, hbs⟩ := g7.bks (by omega) (by omega)
          have s7 := ((s2.trans s3).trans (s35)).trans g7.sm
          refine ⟨_, rfl, _, rfl, (by show 2 ≤ sizeLine; decide), fun t gt => ?_⟩
          have s8 := (Same.refl H7).new (o := .tup [.ref nl, .ref B]) gt
          exact q t nl B ns bs _ (s7.new gt) upd_same (s8 _ _ (g7.sm _ _ hnl5)) (hbs.same s8) hnd' (by omega) (by omega) hnle
theorem to_e {t : TT} {A B : TS} {D : Ends} {r : VK} {b k : L2.St → Hp → Prop} {σ : L2.St} {H : Hp} (h : tIfS t A B D σ H) : Ends.nx ⟨tIfS t A B D, r, b, k⟩ σ H := h
theorem comp_flt {K : PySem.W.Frag} {a D : Addr} {ns : List Str} {ρ : L2.St} {v : Option V} {tt : TT} {Qh : Hp → Prop} {H : Hp} (p : Str → Bool) (hl : H a = some (.lst (ns.map V.str))) (hD : H D = none) (hn : ns.length ≤ 900)
    (ht : ∀ x ∈ ns, ∀ H', Same H H' → ∀ Q : Bool → Hp → Prop, Q (p x) H' → tt (some (.str x) :: ρ) H' Q) (q : ∀ H' : Hp, Same H H' → H' D = some (.lst ((ns.filter p).map V.str)) → Qh H') :
    ∃ W : Nat → Nat → L2.St → Hp → Prop, (∃ m, W 0 m (v :: ρ) (upd H D (.lst []))) ∧ ∀ i m σ2 H2, W i m σ2 H2 →
      ((Itl K a).stop i H2 ∧ Qh H2) ∨ ((Itl K a).go i H2 ∧ ∃ N : L2.St → Hp → Prop, (∀ σ' H', N σ' H' → ∃ m', m' < m ∧ W (i + 1) m' σ' H') ∧ ∀ x H3, (Itl K a).yld i H2 x H3 → gName 0 x σ2 H3 fun σ4 H4 => tt σ4 H4 fun b H5 =>
        if b = true then tVar 0 σ4 H5 fun y H6 => ∃ ys, H6 D = some (.lst ys) ∧ ys.length < sizeLine ∧ N σ4 (upd H6 D (.lst (ys ++ [y]))) else N σ4 H5) := by
  refine comp_lst (K := K) (a := a) (xs := ns.map V.str) (fun i σ H2 => ∃ v0 : Option V, σ = v0 :: ρ ∧ Same H H2 ∧ H2 D = some (.lst (((ns.take i).filter p).map V.str))) ⟨v, rfl, (Same.refl H).new hD, upd_same⟩ (fun i σ H2 ⟨_, _, s2, _⟩ => SqL.of (s2 _ _ hl)) ?_ ?_
  · rintro i x σ H2 hx ⟨v0, rfl, s2, hD2⟩
    rw [List.getElem?_map] at hx
    obtain ⟨y, hy, rfl⟩ := Option.map_eq_some_iff.mp hx
    show tt (some (.str y) :: ρ) H2 _
    refine ht y (List.mem_of_getElem? hy) H2 s2 _ ?_
    by_cases e : p y = true
    · rw [if_pos e]
      refine ⟨_, rfl, _, hD2, small1000 ?_, _, rfl, s2.put hD, ?_⟩
      · rw [List.length_map]
        have := List.length_filter_le p (ns.take i)
        rw [List.length_take] at this
        omega
      · rw [upd_same, take_succ_get hy, List.filter_append, List.filter_cons_of_pos e, List.map_append]
        rfl
    · rw [if_neg e]
      refine ⟨_, rfl, s2, ?_⟩
      rw [take_succ_get hy, List.filter_append, List.filter_cons_of_neg e]
      simpa using hD2
  · rintro σ H2 ⟨v0, rfl, s2, hD2⟩
    rw [List.length_map, List.take_length] at hD2
    exact q H2 s2 hD2
noncomputable def spRoots : Sp := fun vs H Q _ => ∃ (nl bl : Addr) (c : Int) (ns : List Str) (bs : List (List Rk)), vs = [.ref nl, .ref bl, .int c] ∧ H nl = some (.lst (ns.map V.str)) ∧ BksAt ns H bl bs ∧ ns.Nodup ∧ 1 ≤ ns.length ∧ ns.length ≤ 12 ∧
  ∀ (l : Addr) (L : List Str) (H' : Hp), Same H H' → H l = none → H' l = some (.lst (L.map V.str)) → (∀ x ∈ L, x ∈ ns) → L.length ≤ 25 → Q (.ref l) H'
theorem ok_roots (T : Txt K mg) : L2.Cl P w K mg base 2 "_law_roots" ["_law_names_here", "_law_blocks_here", "_law_cell"] spRoots := by
  have C_law_there := ok_there (P := P) (w := w) (base := base) T
  refine Cl.of T.d_law_roots sc_law_roots (fun vs H Q E h => ?_) (fun _ _ _ _ _ _ us hl => by obtain ⟨a, b, c, rfl⟩ := len3 hl; rfl) (fun f cdv A outer s H vs Q E hr h => ?_)
  · obtain ⟨nl, bl, c, ns, bs, rfl, _⟩ := h
    rfl
  · obtain ⟨nl, bl, c, ns, bs, rfl, hnl, hbk, hnd, hn1, hn12, q⟩ := h
    have hu := hu_of hr
    have hx900 : ns.length ≤ 900 := by omega
    refine ⟨_, (@pss_cons _ _ _ _ _ (@ps_set _ _ (3) _ _ _ _ sc_law_roots.nd rfl (Or.inr rfl) (@pe_lst _ _ _ _ (@pa_cons _ _ _ _ _ (@pe_ix _ _ _ _ _ _ _ ix_list (@pv _ 0 _ _ (by rfl) (by first   | exact Or.inl rfl   | exact Or.inr (Or.inl rfl)   | exact Or.inr (Or.inr rfl)) (by decide) (by decide)) (@pe_op _ _ _ _ _ _ _ _ (@op_mod _) (@pv _ 2 _ _ (by rfl) (by first   | exact Or.inl rfl   | exact Or.inr (Or.inl rfl)   | exact Or.inr (Or.inr rfl)) (by decide) (by decide)) (@pe_callB _ _ _ _ _ _ _ _ _ (@call_len_seq _) (by rfl) T.n_len PySem.boot_len (@pa_cons _ _ _ _ _ (@pv _ 0 _ _ (by rfl) (by first   | exact Or.inl rfl   | exact Or.inr (Or.inl rfl)   | exact Or.inr (Or.inr rfl)) (by decide) (by decide)) (@pa_nil _) (by rfl)) (by decide) (by decide) (by rfl) (by rfl))) (fun _ _ => rfl)) (@pa_nil _) (by rfl))) (by rfl) (by first   | exact .inl rfl   | exact .inr rfl   | assumption)) (@pss_cons _ _ _ _ _ (@ps_set _ _ (4) _ _ _ _ sc_law_roots.nd rfl (Or.inr rfl) (@pe_dnewK _ _) (by rfl) (by first   | exact .inl rfl   | exact .inr rfl   | assumption)) (@pss_cons _ _ _ _ _ (@ps_for _ _ _ _ _ _ _ _ PassesOwn.never rfl (@pi_list _ _ _ _ (@pv _ 1 _ _ (by rfl) (by first   | exact Or.inl rfl   | exact Or.inr (Or.inl rfl)   | exact Or.inr (Or.inr rfl)) (by decide) (by decide))) (@pg_name _ _ (5) _ sc_law_roots.nd rfl (Or.inl rfl) (by first   | exact .inl rfl   | exact .inr rfl   | assumption)) (@pss_one _ _ _ (@ps_for _ _ _ _ _ _ _ _ PassesOwn.never rfl (@pi_list _ _ _ _ (@pv _ 5 _ _ (by rfl) (by first   | exact Or.inl rfl   | exact Or.inr (Or.inl rfl)   | exact Or.inr (Or.inr rfl)) (by decide) (by decide))) (@pg_name _ _ (6) _ sc_law_roots.nd rfl (Or.inl rfl) (by first   | exact .inl rfl   | exact .inr rfl   | assumption)) (@pss_one _ _ _ (@ps_if _ _ _ _ _ _ _ _ (@pt_cmpR _ _ _ _ _ _ _ _ (@op_eq _) (@pe_ix _ _ _ _ _ _ _ (@ix_tup _) (@pv _ 6 _ _ (by rfl) (by first   | exact Or.inl rfl   | exact Or.inr (Or.inl rfl)   | exact Or.inr (Or.inr rfl)) (by decide) (by decide)) (@pe_int _ _ _ _) (fun _ _ => rfl)) (@pe_str _ _ _ _) (nomark _)) (@pss_one _ _ _ (@ps_dput _ _ _ _ _ _ _ _ _ hu (@pv _ 4 _ _ (by rfl) (by first   | exact Or.inl rfl   | exact Or.inr (Or.inl rfl)   | exact Or.inr (Or.inr rfl)) (by decide) (by decide)) (@pe_ix _ _ _ _ _ _ _ (@ix_tup _) (@pv _ 6 _ _ (by rfl) (by first   | exact Or.inl rfl   | exact Or.inr (Or.inl rfl)   | exact Or.inr (Or.inr rfl)) (by decide) (by decide)) (@pe_int _ _ _ _) (fun _ _ => rfl)) (@pe_bl _ _ _ _) rfl)) (@pss_nil _))) (by intro _; rfl))) (by intro _; rfl)) (@pss_cons _ _ _ _ _ (@ps_for _ _ _ _ _ _ _ _ PassesOwn.never rfl (@pi_list _ _ _ _ (@pv _ 0 _ _ (by rfl) (by first   | exact Or.inl rfl   | exact Or.inr (Or.inl rfl)   | exact Or.inr (Or.inr rfl)) (by decide) (by decide))) (@pg_name _ _ (7) _ sc_law_roots.nd rfl (Or.inl rfl) (by first   | exact .inl rfl   | exact .inr rfl   | assumption)) (@pss_cons _ _ _ _ _ (@ps_set _ _ (8) _ _ _ _ sc_law_roots.nd rfl (Or.inl rfl) (@pe_lst _ _ _ _ (@pa_nil _)) (by rfl) (by first   | exact .inl rfl   | exact .inr rfl   | assumption)) (@pss_cons _ _ _ _ _ (@ps_for _ _ _ _ _ _ _ _ PassesOwn.never rfl (@pi_list _ _ _ _ (@pe_op _ _ _ _ _ _ _ _ (@op_cat _) (@pv _ 3 _ _ (by rfl) (by first   | exact Or.inl rfl   | exact Or.inr (Or.inl rfl)   | exact Or.inr (Or.inr rfl)) (by decide) (by decide)) (@pe_comp _ _ _ _ _ _ _ (["_law_part", "_law_asked"]) ([none, some 4]) _ _ _ _ (defScope s_law_roots) ["_law_names_here", "_law_blocks_here", "_law_cell", "_law_found", "_law_asked", "_law_rows_here", "_law_row_here", "_law_name", "_law_there_here", "_law_root"] ⟨rfl, by decide +kernel, by decide +kernel, by decide +kernel, rfl, by decide +kernel, by decide +kernel⟩ (@pi_list _ _ _ _ (@pv _ 0 _ _ (by rfl) (by first   | exact Or.inl rfl   | exact Or.inr (Or.inl rfl)   | exact Or.inr (Or.inr rfl)) (by decide) (by decide))) (fun _ _ _ _ _ _ => (@pg_name _ _ (0) _ (show (["_law_part", "_law_asked"] : List Str).Nodup by decide +kernel) rfl (Or.inl rfl) (by first   | exact .inl rfl   | exact .inr rfl   | assumption))) (fun _ _ _ _ _ _ => (@pts_one _ _ _ (@pt_cmp _ _ _ _ _ _ (@pc_din _ _ _ _ _ hu (@pv _ 0 _ _ (by rfl) (by first   | exact Or.inl rfl   | exact Or.inr (Or.inl rfl)   | exact Or.inr (Or.inr rfl)) (by decide) (by decide)) (@pv _ 1 _ _ (by rfl) (by first   | exact Or.inl rfl   | exact Or.inr (Or.inl rfl)   | exact Or.inr (Or.inr rfl)) (by decide) (by decide))) (by first   | exact nobehind _ (by decide) (by decide)   | rfl)))) (fun _ _ _ _ _ _ => (@pv _ 0 _ _ (by rfl) (by first   | exact Or.inl rfl   | exact Or.inr (Or.inl rfl)   | exact Or.inr (Or.inr rfl)) (by decide) (by decide))) (by rfl) (by rfl) (by rfl) (by intro _; rfl)))) (@pg_name _ _ (9) _ sc_law_roots.nd rfl (Or.inl rfl) (by first   | exact .inl rfl   | exact .inr rfl   | assumption)) (@pss_one _ _ _ (@ps_set _ _ (8) _ _ _ _ sc_law_roots.nd rfl (Or.inl rfl) (@pe_op _ _ _ _ _ _ _ _ (@op_cat _) (@pv _ 8 _ _ (by rfl) (by first   | exact Or.inl rfl   | exact Or.inr (Or.inl rfl)   | exact Or.inr (Or.inr rfl)) (by decide) (by decide)) (@pe_fn _ _ _ _ _ _ _ _ _ _ _ C_law_there hr (by rfl) (@pa_cons _ _ _ _ _ (@pv _ 0 _ _ (by rfl) (by first   | exact Or.inl rfl   | exact Or.inr (Or.inl rfl)   | exact Or.inr (Or.inr rfl)) (by decide) (by decide)) (@pa_cons _ _ _ _ _ (@pv _ 1 _ _ (by rfl) (by first   | exact Or.inl rfl   | exact Or.inr (Or.inl rfl)   | exact Or.inr (Or.inr rfl)) (by decide) (by decide)) (@pa_cons _ _ _ _ _ (@pv _ 9 _ _ (by rfl) (by first   | exact Or.inl rfl   | exact Or.inr (Or.inl rfl)   | exact Or.inr (Or.inr rfl)) (by decide) (by decide)) (@pa_cons _ _ _ _ _ (@pe_tup _ _ _ _ _ (@pa_cons _ _ _ _ _ (@pe_str _ _ _ _) (@pa_nil _) (by rfl))) (@pa_nil _) (by rfl)) (by rfl)) (by rfl)) (by rfl)) (by decide) (by decide) (by rfl) (by rfl))) (by rfl) (by first   | exact .inl rfl   | exact .inr rfl   | assumption))) (by intro _; rfl)) (@pss_one _ _ _ (@ps_if _ _ _ _ _ _ _ _ (@pt_cmpR _ _ _ _ _ _ _ _ (@op_notIn_seq _) (@pv _ 7 _ _ (by rfl) (by first   | exact Or.inl rfl   | exact Or.inr (Or.inl rfl)   | exact Or.inr (Or.inr rfl)) (by decide) (by decide)) (@pv _ 8 _ _ (by rfl) (by first   | exact Or.inl rfl   | exact Or.inr (Or.inl rfl)   | exact Or.inr (Or.inr rfl)) (by decide) (by decide)) (by with_unfolding_all rfl)) (@pss_one _ _ _ (@ps_expr _ _ _ _ (@pe_bm _ _ _ _ _ _ _ _ _ _ _ _ PySem.F.plainAttrs_list PySem.F.slot_list_append PySem.F.type_list_append (@mt_append _) (@pv _ 3 _ _ (by rfl) (by first   | exact Or.inl rfl   | exact Or.inr (Or.inl rfl)   | exact Or.inr (Or.inr rfl)) (by decide) (by decide)) (@pa_cons _ _ _ _ _ (@pv _ 7 _ _ (by rfl) (by first   | exact Or.inl rfl   | exact Or.inr (Or.inl rfl)   | exact Or.inr (Or.inr rfl)) (by decide) (by decide)) (@pa_nil _) (by rfl)) (by rfl) (by rfl) (by rfl) (by rfl) (by rfl)) (by rfl))) (@pss_nil _))))) (by intro _; rfl)) (@pss_one _ _ _ (@ps_ret _ _ _ _ (@pe_op _ _ _ _ _ _ _ _ (@op_cat _) (@pv _ 3 _ _ (by rfl) (by first   | exact Or.inl rfl   | exact Or.inr (Or.inl rfl)   | exact Or.inr (Or.inr rfl)) (by decide) (by decide)) (@pe_comp _ _ _ _ _ _ _ (["_law_name", "_law_asked", "_law_found"]) ([none, some 4, some 3]) _ _ _ _ (defScope s_law_roots) ["_law_names_here", "_law_blocks_here", "_law_cell", "_law_found", "_law_asked", "_law_rows_here", "_law_row_here", "_law_name", "_law_there_here", "_law_root"] ⟨rfl, by decide +kernel, by decide +kernel, by decide +kernel, rfl, by decide +kernel, by decide +kernel⟩ (@pi_list _ _ _ _ (@pv _ 0 _ _ (by rfl) (by first   | exact Or.inl rfl   | exact Or.inr (Or.inl rfl)   | exact Or.inr (Or.inr rfl)) (by decide) (by decide))) (fun _ _ _ _ _ _ => (@pg_name _ _ (0) _ (show (["_law_name", "_law_asked", "_law_found"] : List Str).Nodup by decide +kernel) rfl (Or.inl rfl) (by first   | exact .inl rfl   | exact .inr rfl   | assumption))) (fun _ _ _ _ _ _ => (@pts_one _ _ _ (PW.pt (@pw_and _ _ _ _ _ _ _ (@pt_cmp _ _ _ _ _ _ (@pc_din _ _ _ _ _ hu (@pv _ 0 _ _ (by rfl) (by first   | exact Or.inl rfl   | exact Or.inr (Or.inl rfl)   | exact Or.inr (Or.inr rfl)) (by decide) (by decide)) (@pv _ 1 _ _ (by rfl) (by first   | exact Or.inl rfl   | exact Or.inr (Or.inl rfl)   | exact Or.inr (Or.inr rfl)) (by decide) (by decide))) (by first   | exact nobehind _ (by decide) (by decide)   | rfl)) (@pw_and1 _ _ _ _ (@pt_cmpR _ _ _ _ _ _ _ _ (@op_notin_seqK _ (K) rfl) (@pv _ 0 _ _ (by rfl) (by first   | exact Or.inl rfl   | exact Or.inr (Or.inl rfl)   | exact Or.inr (Or.inr rfl)) (by decide) (by decide)) (@pv _ 2 _ _ (by rfl) (by first   | exact Or.inl rfl   | exact Or.inr (Or.inl rfl)   | exact Or.inr (Or.inr rfl)) (by decide) (by decide)) (by with_unfolding_all rfl))))))) (fun _ _ _ _ _ _ => (@pv _ 0 _ _ (by rfl) (by first   | exact Or.inl rfl   | exact Or.inr (Or.inl rfl)   | exact Or.inr (Or.inr rfl)) (by decide) (by decide))) (by rfl) (by rfl) (by rfl) (by intro _; rfl))))))))), ?_⟩
    have mm := mod_in (i := c) (n := (ns.length : Int)) (by omega)
    obtain ⟨x0, hx0, e0⟩ := atI_strs (l := ns) mm.1 mm.2
    refine ⟨_, rfl, _, rfl, _, rfl, nl, _, rfl, .inl (SqL.of hnl), _, _, rfl, rfl, (by rw [List.length_map]; show (0 : Int) < (ns.length : Int); omega), nl, _, _, _, rfl, rfl, SqL.of hnl, (by rw [List.length_map]; exact e0), (by show 1 ≤ sizeLine; decide), fun F gF => ?_⟩
    have s1 : Same H (upd H F (.lst [.str x0])) := (Same.refl H).new gF
    have hF1 : upd H F (.lst [.str x0]) F = some (.lst [.str x0]) := upd_same
    generalize upd H F (.lst [.str x0]) = H1 at s1 hF1 ⊢
    intro d gd
    have s2 : Same H1 (upd H1 d (.dK [])) := (Same.refl H1).new gd
    have hdF : d ≠ F := fun z => by rw [z, hF1] at gd; cases gd
    obtain ⟨bvs, hbl, hbp, hbsl, hb40⟩ := hbk.same (s1.trans s2)
    have hd2 : upd H1 d (.dK []) d = some (.dK (setD [])) := upd_same
    have hF2 := s2 _ _ hF1
    generalize upd H1 d (.dK []) = H2 at s2 hd2 hF2 hbl hbp ⊢
    have s12 := s1.trans s2
    refine ⟨_, rfl, bl, rfl, ⟨_, SqL.of hbl⟩, ?_⟩
    refine for_list (K := K) (a := bl) (xs := bvs) (fun i σ H3 => ∃ (l : List Str) (v5 v6 : Option V), σ = [some (.ref nl), some (.ref bl), some (.int c), some (.ref F), some (.ref d), v5, v6, none, none, none] ∧ But d H2 H3 ∧ H3 d = some (.dK (setD l)) ∧ l.Nodup ∧ ∀ x ∈ l, x ∈ ns) ⟨[], none, none, rfl, fun _ _ _ h => h, hd2, by simp, by simp⟩ (fun i σ H3 _ ⟨_, _, _, _, B3, _⟩ => SqL.of (B3 _ _ (fun z => by rw [z, hd2] at hbl; cases hbl) hbl)) ?_ ?_
    · rintro i x σ H3 hx ⟨l, v5, v6, rfl, B3, hd3, hlnd, hlN⟩
      obtain ⟨rs, hrs, b, rfl, hb, hra⟩ := Paired.get? hbp hx
      have hbd : b ≠ d := fun z => by rw [z, hd2] at hb; cases hb
      refine ⟨_, rfl, b, rfl, ⟨_, SqL.of (B3 _ _ hbd hb)⟩, ?_⟩
      refine for_list (K := K) (a := b) (xs := rs.map fun r => V.ref r.a) (fun j σ H4 => ∃ (l : List Str) (v6 : Option V), σ = [some (.ref nl), some (.ref bl), some (.int c), some (.ref F), some (.ref d), some (.ref b), v6, none, none, none] ∧ But d H2 H4 ∧ H4 d = some (.dK (setD l)) ∧ l.Nodup ∧ ∀ x ∈ l, x ∈ ns) ⟨l, _, rfl, B3, hd3, hlnd, hlN⟩ (fun i σ H4 _ ⟨_, _, _, B4, _⟩ => SqL.of (B4 _ _ hbd hb)) ?_ ?_
      · rintro j y σ H4 hy ⟨l4, v6', rfl, B4, hd4, hnd4, hN4⟩
        rw [List.getElem?_map] at hy
        obtain ⟨r, hr', rfl⟩ := Option.map_eq_some_iff.mp hy
        obtain ⟨y1, tl, hrt0, hkp, hto⟩ := hra r (List.mem_of_getElem? hr')
        have hrt := B4 _ _ (fun z => by rw [z, hd2] at hrt0; cases hrt0) hrt0
        have z0 : atI (V.str r.k :: y1 :: tl) 0 = some (.str r.k) := atI_nat (j := 0) rfl
        have z1 : atI (V.str r.k :: y1 :: tl) 1 = some y1 := atI_nat (j := 1) rfl
        refine ⟨_, rfl, r.a, _, _, _, rfl, rfl, SqT.of hrt, z0, rfl, _, rfl, ite2 (fun hk => ?_) (fun hk => ?_)⟩
        · have hk' : r.k = "ask" := V.str.inj (of_decide_eq_true hk)
          obtain ⟨m, hmN, hrt', rfl⟩ := hto (.inr hk')
          have hll := nodup_lenG l4 _ hnd4 hN4
          refine ⟨_, rfl, _, rfl, r.a, _, _, _, rfl, rfl, SqT.of hrt, z1, d, _, rfl, DPut.k (k := Sum.inr m) hd4 (small1000 (by rw [setD_len]; omega)), ?_⟩
          refine ⟨addN l4 m, _, rfl, (fun a o ha h => by rw [upd_ne ha]; exact B4 a o ha h), by rw [upd_same, setD_put], addN_nodup hnd4 m, fun x hx => ?_⟩
          rcases (addN_mem l4 m x).mp hx with z | z
          · exact hN4 x z
          · rw [z]; exact hmN
        · exact ⟨l4, _, rfl, B4, hd4, hnd4, hN4⟩
      · rintro σ H4 ⟨l4, v6', rfl, B4, hd4, hnd4, hN4⟩
        exact ⟨l4, _, _, rfl, B4, hd4, hnd4, hN4⟩
    · rintro σ H3 ⟨l, v5, v6, rfl, B3, hd3, hlnd, hlN⟩
      have s13 : Same H H3 := fun a o h => by
        have h1 := s12 a o h
        exact B3 a o (fun z => by rw [z, s1.free gd] at h; cases h) h1
      have hF3 := B3 _ _ hdF.symm hF2
      have hnl3 := s13 _ _ hnl
      refine ⟨_, rfl, nl, rfl, ⟨_, SqL.of hnl3⟩, ?_⟩
      have hnF : nl ≠ F := fun z => by rw [z, gF] at hnl; cases hnl
      refine for_list (K := K) (a := nl) (xs := ns.map V.str) (fun i σ H4 => ∃ (L : List Str) (v7 v8 v9 : Option V), σ = [some (.ref nl), some (.ref bl), some (.int c), some (.ref F), some (.ref d), v5, v6, v7, v8, v9] ∧ But F H3 H4 ∧ H4 F = some (.lst (L.map V.str)) ∧ (∀ x ∈ L, x ∈ ns) ∧ L.length ≤ 1 + i) ⟨[x0], _, _, _, rfl, fun _ _ _ h => h, hF3, fun x hx => by rw [List.mem_singleton.mp hx]; exact hx0, by simp⟩ (fun i σ H4 _ ⟨_, _, _, _, _, B4, _⟩ => SqL.of (B4 _ _ hnF hnl3)) ?_ ?_
      · rintro i x σ H4 hx ⟨L, v7, v8, v9, rfl, B4, hF4, hLN, hLl⟩
        rw [List.getElem?_map] at hx
        obtain ⟨y, hy, rfl⟩ := Option.map_eq_some_iff.mp hx
        have hi : i < ns.length := (List.getElem?_eq_some_iff.mp hy).1
        have s34 : Same H H4 := fun a o h => B4 a o (fun z => by rw [z, gF] at h; cases h) (s13 a o h)
        have hd4 := B4 _ _ hdF hd3
        refine ⟨(by show 0 ≤ sizeLine; decide), fun t0 gt0 => ?_⟩
        have s5 : Same H4 (upd H4 t0 (.lst [])) := (Same.refl H4).new gt0
        have ht0 : upd H4 t0 (.lst []) t0 = some (.lst (([] : List Str).map V.str)) := upd_same
        generalize upd H4 t0 (.lst []) = H5 at s5 ht0 ⊢
        refine ⟨_, rfl, _, rfl, nl, rfl, ⟨_, SqL.of (s5 _ _ (s34 _ _ hnl))⟩, fun D gD => comp_flt (K := K) (fun x => decide (x ∈ l)) (s5 _ _ (s34 _ _ hnl)) gD hx900 (fun x hx H' s' Q' h => ?_) fun H6 s6 hD6 => ?_⟩
        · refine ⟨_, rfl, _, rfl, d, _, rfl, DGet.k (k := Sum.inr x) (s' _ _ (s5 _ _ hd4)), _, rfl, ?_⟩
          rw [setD_some]
          exact h
        have hfl := List.length_filter_le (fun x => decide (x ∈ l)) ns
        refine ⟨F, D, _, _, rfl, rfl, s6 _ _ (s5 _ _ hF4), hD6, (by rw [List.length_map, List.length_map]; exact Nat.le_of_lt (small1000 (by omega))), fun p gp => ?_⟩
        rw [← List.map_append]
        have hR : ∀ x ∈ L ++ ns.filter (fun x => decide (x ∈ l)), x ∈ ns := fun x hx => by
          rcases List.mem_append.mp hx with z | z
          · exact hLN x z
          · exact (List.mem_filter.mp z).1
        have hRl : (L ++ ns.filter (fun x => decide (x ∈ l))).length ≤ 25 := by rw [List.length_append]; omega
        generalize L ++ ns.filter (fun x => decide (x ∈ l)) = R at hR hRl ⊢
        have s7 : Same H6 (upd H6 p (.lst (R.map V.str))) := (Same.refl H6).new gp
        have hp7 : upd H6 p (.lst (R.map V.str)) p = some (.lst (R.map V.str)) := upd_same
        generalize upd H6 p (.lst (R.map V.str)) = H7 at s7 hp7 ⊢
        have s57 := s6.trans s7
        refine ⟨p, rfl, ⟨_, SqL.of hp7⟩, ?_⟩
        refine for_list (K := K) (a := p) (xs := R.map V.str) (fun j σ H8 => ∃ (t : Addr) (X : List Str) (v9 : Option V), σ = [some (.ref nl), some (.ref bl), some (.int c), some (.ref F), some (.ref d), v5, v6, some (.str y), some (.ref t), v9] ∧ Same H7 H8 ∧ H8 t = some (.lst (X.map V.str)) ∧ X.length ≤ 12 * j) ⟨t0, [], _, rfl, Same.refl H7, s57 _ _ ht0, by simp⟩ (fun j σ H8 _ ⟨_, _, _, _, s8, _⟩ => SqL.of (s8 _ _ hp7)) ?_ ?_
        · rintro j r σ H8 hr8 ⟨t, X, v9', rfl, s8, ht, hXl⟩
          rw [List.getElem?_map] at hr8
          obtain ⟨rt, hrt, rfl⟩ := Option.map_eq_some_iff.mp hr8
          have hj : j < R.length := (List.getElem?_eq_some_iff.mp hrt).1
          have s48 : Same H H8 := s34.trans (s5.trans (s57.trans s8))
          refine ⟨_, rfl, _, rfl, _, rfl, _, rfl, (by show 1 ≤ sizeLine; decide), fun wt gwt => ?_⟩
          have s9 : Same H8 (upd H8 wt (.tup [.str "do"])) := (Same.refl H8).new gwt
          refine ⟨nl, bl, wt, rt, ns, ["do"], bs, rfl, s9 _ _ (s48 _ _ hnl), hbk.same (s48.trans s9), hnd, hn12, hR _ (List.mem_of_getElem? hrt), upd_same, fun w hw => .inl (List.mem_singleton.mp hw), fun l' L' H9 s10 _ hl' hnd' hN' _ => ?_⟩
          have hL' := nodup_lenG L' _ hnd' hN'
          refine ⟨t, l', _, _, rfl, rfl, s10 _ _ (s9 _ _ ht), hl', (by rw [List.length_map, List.length_map]; exact Nat.le_of_lt (small1000 (by omega))), fun t' gt' => ?_⟩
          rw [← List.map_append]
          exact ⟨t', X ++ L', _, rfl, (s8.trans (s9.trans s10)).new gt', upd_same, by rw [List.length_append]; omega⟩
        · rintro σ H8 ⟨t, X, v9', rfl, s8, ht, hXl⟩
          have s48 : Same H4 H8 := s5.trans (s57.trans s8)
          refine to_e ?_
          refine if_endJ (fun b H9 => H9 = H8) (fun Q' h => ?_) ?_ ?_
          · exact ⟨_, rfl, _, rfl, t, _, rfl, .inl (SqL.of ht), rfl, strs_flat _, _, rfl, h _ _ rfl⟩
          · rintro H9 rfl
            have hF9 := s48 _ _ hF4
            refine ⟨_, rfl, .inl ⟨rfl, _, SqL.of hF9⟩, _, rfl, F, _, _, rfl, rfl, hF9, small1000 (by rw [List.length_map]; omega), ?_⟩
            refine ⟨L ++ [y], _, _, _, rfl, (fun a o ha h => by rw [upd_ne ha]; exact s48 _ _ (B4 a o ha h)), by rw [upd_same, List.map_append]; rfl, fun x hx => ?_, by rw [List.length_append]; simp; omega⟩
            rcases List.mem_append.mp hx with z | z
            · exact hLN x z
            · rw [List.mem_singleton.mp z]; exact List.mem_of_getElem? hy
          · rintro H9 rfl
            exact ⟨L, _, _, _, rfl, fun a o ha h => s48 _ _ (B4 a o ha h), s48 _ _ hF4, hLN, by omega⟩
      · rintro σ H4 ⟨L, v7, v8, v9, rfl, B4, hF4, hLN, hLl⟩
        rw [List.length_map] at hLl
        have s34 : Same H H4 := fun a o h => B4 a o (fun z => by rw [z, gF] at h; cases h) (s13 a o h)
        have hd4 := B4 _ _ hdF hd3
        refine ⟨_, rfl, _, rfl, nl, rfl, ⟨_, SqL.of (s34 _ _ hnl)⟩, fun D gD => comp_flt (K := K) (fun x => decide (x ∈ l) && !decide (x ∈ L)) (s34 _ _ hnl) gD hx900 (fun x hx H' s' Q' h => ?_) fun H6 s6 hD6 => ?_⟩
        · refine tand_pure (a := decide (x ∈ l)) (b := !decide (x ∈ L)) (fun Q'' h' => ?_) (fun Q'' h' => ?_) _ h
          · refine ⟨_, rfl, _, rfl, d, _, rfl, DGet.k (k := Sum.inr x) (s' _ _ hd4), _, rfl, ?_⟩
            rw [setD_some]
            exact h'
          · refine ⟨_, rfl, _, rfl, F, _, rfl, .inl (SqL.of (s' _ _ hF4)), rfl, strs_flat _, _, rfl, ?_⟩
            rw [inV_strs]
            exact h'
        have hfl := List.length_filter_le (fun x => decide (x ∈ l) && !decide (x ∈ L)) ns
        refine ⟨F, D, _, _, rfl, rfl, s6 _ _ hF4, hD6, (by rw [List.length_map, List.length_map]; exact Nat.le_of_lt (small1000 (by omega))), fun p gp => ?_⟩
        refine q p (L ++ ns.filter fun x => decide (x ∈ l) && !decide (x ∈ L)) _ ((s34.trans s6).new gp) (s34.free (s6.free gp)) (by rw [upd_same, List.map_append]) (fun x hx => ?_) (by rw [List.length_append]; omega)
        rcases List.mem_append.mp hx with z | z
        · exact hLN x z
        · exact (List.mem_filter.mp z).1
theorem comp_newR {K : PySem.W.Frag} {m : Nat} {Qh : Hp → Prop} {v : Option V} {H : Hp} {D : Addr} (hD : H D = none) (hx : m ≤ 900)
    (q : ∀ (as : List Addr) (H' : Hp), Same H H' → H' D = some (.lst (as.map V.ref)) → as.length = m → as.Nodup → (∀ b ∈ as, H b = none ∧ b ≠ D ∧ H' b = some (.lst [])) → Qh H') :
    ∃ W : Nat → Nat → L2.St → Hp → Prop, (∃ k, W 0 k [v] (upd H D (.lst []))) ∧ ∀ i k σ2 H2, W i k σ2 H2 →
      ((Itr 0 m).stop i H2 ∧ Qh H2) ∨ ((Itr 0 m).go i H2 ∧ ∃ N : L2.St → Hp → Prop, (∀ σ' H', N σ' H' → ∃ m', m' < k ∧ W (i + 1) m' σ' H') ∧ ∀ x H3, (Itr 0 m).yld i H2 x H3 → gName 0 x σ2 H3 fun σ4 H4 => tNoTest σ4 H4 fun b H5 =>
        if b = true then tLst tNil σ4 H5 fun y H6 => ∃ ys, H6 D = some (.lst ys) ∧ ys.length < sizeLine ∧ N σ4 (upd H6 D (.lst (ys ++ [y]))) else N σ4 H5) := by
  refine comp_by m (fun i σ H2 => ∃ (v0 : Option V) (as : List Addr), σ = [v0] ∧ Same H H2 ∧ H2 D = some (.lst (as.map V.ref)) ∧ as.length = i ∧ as.Nodup ∧ ∀ b ∈ as, H b = none ∧ b ≠ D ∧ H2 b = some (.lst [])) ⟨v, [], rfl, (Same.refl H).new hD, upd_same, rfl, List.nodup_nil, by simp⟩ ?_ ?_
  · rintro i σ H2 hi ⟨v0, as, rfl, s2, hD2, hlen, hnd, hall⟩
    refine ⟨hi, ?_⟩
    rintro x H3 ⟨rfl, rfl⟩
    refine ntG ?_
    refine ⟨(by show 0 ≤ sizeLine; decide), fun p gp => ?_⟩
    have hpD : p ≠ D := fun z => by rw [z, hD2] at gp; cases gp
    have hD3 : upd H3 p (.lst []) D = some (.lst (as.map V.ref)) := upd_keep hD2 gp
    refine ⟨_, hD3, small1000 (by rw [List.length_map]; omega), _, as ++ [p], rfl, (s2.new gp).put hD, ?_, by rw [List.length_append, hlen]; rfl, ?_, ?_⟩
    · rw [upd_same, List.map_append]; rfl
    · rw [List.nodup_append]
      refine ⟨hnd, by simp, fun b hb c hc e => ?_⟩
      rw [List.mem_singleton.mp hc] at e
      have := (hall b hb).2.2
      rw [e, gp] at this
      cases this
    · intro b hb
      rcases List.mem_append.mp hb with z | z
      · obtain ⟨h1, h2, h3⟩ := hall b z
        exact ⟨h1, h2, by rw [upd_ne h2]; exact upd_keep h3 gp⟩
      · rw [List.mem_singleton.mp z]
        exact ⟨s2.free gp, hpD, by rw [upd_ne hpD, upd_same]⟩
  · rintro σ H2 ⟨v0, as, rfl, s2, hD2, hlen, hnd, hall⟩
    exact ⟨Nat.le_refl _, q as H2 s2 hD2 hlen hnd hall⟩
theorem pair_cat {α β : Type} {F : α → β → Prop} : ∀ {xs us : List α} {ys ws : List β}, Paired F xs ys → Paired F us ws → Paired F (xs ++ us) (ys ++ ws)
  | _, _, _, _, .nil, h => h
  | _, _, _, _, .cons h1 h2, h => .cons h1 (pair_cat h2 h)
theorem allR_snoc {ns : List Str} {bs : List (List Rk)} {k : Nat} {n : Str} {rs : List Rk} (h1 : ns[k]? = some n) (h2 : bs[k]? = some rs) : allR (ns.take (k + 1)) (bs.take (k + 1)) = allR (ns.take k) (bs.take k) ++ rs.map fun r => (n, r) := by
  unfold allR
  have l1 : k < ns.length := (List.getElem?_eq_some_iff.mp h1).1
  have l2 : k < bs.length := (List.getElem?_eq_some_iff.mp h2).1
  rw [take_succ_get h1, take_succ_get h2, List.zip_append (by rw [List.length_take, List.length_take]; omega), List.flatMap_append]
  congr 1
  simp
structure Aq (H0 : Hp) (P O : Addr) (pa oa : List Addr) : Prop where
  nd : pa.Nodup
  fr : ∀ b, b ∈ pa ∨ b ∈ oa → H0 b = none ∧ b ≠ P ∧ b ≠ O
  dj : ∀ b ∈ pa, b ∉ oa
  ne : H0 P = none ∧ H0 O = none
structure Gq (ns : List Str) (H0 : Hp) (P O : Addr) (pa oa : List Addr) (pk : List (List Ro)) (j jo : Nat) (H : Hp) : Prop where
  sm : Same H0 H
  hP : H P = some (.lst (pa.map V.ref))
  hO : H O = some (.lst (oa.map V.ref))
  ln : pk.length = pa.length
  rw : ∀ (l : Nat) (b : Addr) (Pl : List Ro), pa[l]? = some b → pk[l]? = some Pl → ∃ vs, H b = some (.lst vs) ∧ Paired (RoAt ns H) vs Pl ∧ vs.length ≤ j
  ro : ∀ b ∈ oa, ∃ vs, H b = some (.lst vs) ∧ vs.length ≤ jo
theorem Gq.up {ns : List Str} {H0 : Hp} {P O : Addr} {pa oa : List Addr} {pk : List (List Ro)} {j jo : Nat} {H H' : Hp} (g : Gq ns H0 P O pa oa pk j jo H) (s : Same H H') : Gq ns H0 P O pa oa pk j jo H' :=
  ⟨g.sm.trans s, s _ _ g.hP, s _ _ g.hO, g.ln, fun l b Pl h1 h2 => by
    obtain ⟨vs, a1, a2, a3⟩ := g.rw l b Pl h1 h2
    exact ⟨vs, s _ _ a1, Paired.mapP a2 fun _ _ z => z.mono s.tups, a3⟩, fun b hb => by
    obtain ⟨vs, a1, a2⟩ := g.ro b hb
    exact ⟨vs, s _ _ a1, a2⟩⟩
theorem Gq.putP {ns : List Str} {H0 : Hp} {P O : Addr} {pa oa : List Addr} {pk : List (List Ro)} {j j' jo : Nat} {H : Hp} (g : Gq ns H0 P O pa oa pk j jo H) (a : Aq H0 P O pa oa) {l : Nat} {b : Addr} {Pl E : List Ro} {vs ws : List V} (hl : pa[l]? = some b) (hp : pk[l]? = some Pl) (hb : H b = some (.lst vs)) (hvs : Paired (RoAt ns H) vs Pl) (hws : Paired (RoAt ns H) ws E) (hj : j ≤ j') (hlen : vs.length + ws.length ≤ j') :
    Gq ns H0 P O pa oa (pk.set l (Pl ++ E)) j' jo (upd H b (.lst (vs ++ ws))) := by
  have T := Tups.lst (ys := vs ++ ws) hb
  have hbm := List.mem_of_getElem? hl
  obtain ⟨f0, fP, fO⟩ := a.fr b (.inl hbm)
  have hll : l < pk.length := (List.getElem?_eq_some_iff.mp hp).1
  refine ⟨g.sm.put f0, by rw [upd_ne fP.symm]; exact g.hP, by rw [upd_ne fO.symm]; exact g.hO, by rw [List.length_set]; exact g.ln, fun l' b' Pl' h1 h2 => ?_, fun b' hb' => ?_⟩
  · by_cases e : l = l'
    · subst e
      rw [hl] at h1
      cases h1
      rw [List.getElem?_set_self hll] at h2
      cases h2
      exact ⟨_, upd_same, pair_cat (Paired.mapP hvs fun _ _ z => z.mono T) (Paired.mapP hws fun _ _ z => z.mono T), by rw [List.length_append]; exact hlen⟩
    · rw [List.getElem?_set_ne e] at h2
      obtain ⟨vs', a1, a2, a3⟩ := g.rw l' b' Pl' h1 h2
      have hne : b' ≠ b := fun z => by
        subst z
        exact e ((List.getElem?_inj (List.getElem?_eq_some_iff.mp hl).1 a.nd).mp (by rw [hl, h1]))
      exact ⟨vs', by rw [upd_ne hne]; exact a1, Paired.mapP a2 fun _ _ z => z.mono T, by omega⟩
  · obtain ⟨vs', a1, a2⟩ := g.ro b' hb'
    exact ⟨vs', by rw [upd_ne (show b' ≠ b from fun z => a.dj b hbm (z ▸ hb'))]; exact a1, by omega⟩
theorem Gq.putO {ns : List Str} {H0 : Hp} {P O : Addr} {pa oa : List Addr} {pk : List (List Ro)} {j jo jo' : Nat} {H : Hp} (g : Gq ns H0 P O pa oa pk j jo H) (a : Aq H0 P O pa oa) {b : Addr} {vs : List V} (hbm : b ∈ oa) {vs0 : List V} (hb : H b = some (.lst vs0)) (hj : jo ≤ jo') (hlen : vs.length ≤ jo') :
    Gq ns H0 P O pa oa pk j jo' (upd H b (.lst vs)) := by
  have T := Tups.lst (ys := vs) hb
  obtain ⟨f0, fP, fO⟩ := a.fr b (.inr hbm)
  refine ⟨g.sm.put f0, by rw [upd_ne fP.symm]; exact g.hP, by rw [upd_ne fO.symm]; exact g.hO, g.ln, fun l' b' Pl' h1 h2 => ?_, fun b' hb' => ?_⟩
  · obtain ⟨vs', a1, a2, a3⟩ := g.rw l' b' Pl' h1 h2
    exact ⟨vs', by rw [upd_ne (show b' ≠ b from fun z => a.dj b' (List.mem_of_getElem? h1) (z ▸ hbm))]; exact a1, Paired.mapP a2 fun _ _ z => z.mono T, by omega⟩
  · by_cases e : b' = b
    · subst e
      exact ⟨_, upd_same, hlen⟩
    · obtain ⟨vs', a1, a2⟩ := g.ro b' hb'
      exact ⟨vs', by rw [upd_ne e]; exact a1, by omega⟩
structure Pq (ns : List Str) (bs : List (List Rk)) (k : Nat) (pk : List (List Ro)) : Prop where
  hd : ∀ P ∈ pk, P = [] ∨ ∃ n t, P = .part n :: t
  pt : (pk.flatMap ptsOf).Perm (ns.take k)
  pr : (pk.flatMap prs).Perm (allR (ns.take k) (bs.take k))
theorem Pq.more {ns : List Str} {bs : List (List Rk)} {k : Nat} {pk : List (List Ro)} (h : Pq ns bs k pk) {l : Nat} {Pl : List Ro} {n : Str} {rs : List Rk} (hp : pk[l]? = some Pl) (h1 : ns[k]? = some n) (h2 : bs[k]? = some rs) : Pq ns bs (k + 1) (pk.set l (Pl ++ (.part n :: rs.map Ro.row))) := by
  refine ⟨fun P hP => ?_, ?_, ?_⟩
  · rcases List.mem_or_eq_of_mem_set hP with z | z
    · exact h.hd P z
    · rcases h.hd Pl (List.mem_of_getElem? hp) with e | ⟨n', t, e⟩
      · rw [z, e]; exact .inr ⟨n, _, rfl⟩
      · rw [z, e]; exact .inr ⟨n', _, rfl⟩
  · refine (flat_set (e := [n]) pk l Pl hp (pts_more Pl n rs)).trans ?_
    rw [take_succ_get h1]
    exact h.pt.append_right _
  · refine (flat_set (e := rs.map fun r => (n, r)) pk l Pl hp (prs_more Pl n rs)).trans ?_
    rw [allR_snoc h1 h2]
    exact h.pr.append_right _
theorem Pq.ok {ns : List Str} {bs : List (List Rk)} {pk : List (List Ro)} (h : Pq ns bs ns.length pk) (hl : bs.length = ns.length) : PkOk ns bs pk := by
  refine ⟨h.hd, ?_, ?_⟩
  · have := h.pt
    rwa [List.take_length] at this
  · have := h.pr
    rwa [List.take_length, ← hl, List.take_length] at this
theorem Pq.zero {ns : List Str} {bs : List (List Rk)} (m : Nat) : Pq ns bs 0 (List.replicate m []) := by
  have e : ∀ {β : Type} (f : List Ro → List β), f [] = [] → (List.replicate m ([] : List Ro)).flatMap f = [] := fun f hf => by
    rw [List.flatMap_eq_nil_iff]
    intro x hx
    rw [List.eq_of_mem_replicate hx]
    exact hf
  refine ⟨fun P hP => .inl (List.eq_of_mem_replicate hP), ?_, ?_⟩
  · rw [e ptsOf rfl]; exact List.Perm.refl _
  · rw [e prs rfl]; exact List.Perm.refl _
noncomputable def PkAt (ns : List Str) (H : Hp) (v : V) (Pl : List Ro) : Prop := ∃ a vs, v = .ref a ∧ H a = some (.tup vs) ∧ Paired (RoAt ns H) vs Pl
noncomputable def LdAt (H : Hp) (v : V) (q : Str × List Int) : Prop := ∃ t u, v = .ref t ∧ H t = some (.tup [.str q.1, .ref u]) ∧ H u = some (.tup (q.2.map V.int))
theorem PkAt.mono {ns : List Str} {H H' : Hp} (s : Tups H H') {v : V} {Pl : List Ro} (h : PkAt ns H v Pl) : PkAt ns H' v Pl := by
  obtain ⟨a, vs, h1, h2, h3⟩ := h
  exact ⟨a, vs, h1, s _ _ h2, Paired.mapP h3 fun _ _ z => z.mono s⟩
theorem LdAt.mono {H H' : Hp} (s : Tups H H') {v : V} {q : Str × List Int} (h : LdAt H v q) : LdAt H' v q := by
  obtain ⟨t, u, h1, h2, h3⟩ := h
  exact ⟨t, u, h1, s _ _ h2, s _ _ h3⟩
theorem sum_le {l : List (Str × List Rk)} (h : ∀ q ∈ l, q.2.length ≤ 40) : (l.flatMap fun q : Str × List Rk => q.2.map fun r => (q.1, r)).length ≤ 40 * l.length := by
  induction l with
  | nil => simp
  | cons a t ih =>
    have h1 := ih fun q hq => h q (List.mem_cons_of_mem _ hq)
    have h2 := h a List.mem_cons_self
    rw [List.flatMap_cons, List.length_append, List.length_map, List.length_cons]
    omega
theorem Pq.tl {ns : List Str} {bs : List (List Rk)} {pk : List (List Ro)} (h : Pq ns bs ns.length pk) (hl : bs.length = ns.length) (h12 : ns.length ≤ 12) (h40 : ∀ rs ∈ bs, rs.length ≤ 40) : (tags 0 pk).length ≤ 480 := by
  have e1 := (h.ok hl).pr.length_eq
  have e2 := congrArg List.length (tags_prs pk 0)
  rw [List.length_map] at e2
  have e3 : (allR ns bs).length ≤ 40 * (ns.zip bs).length := sum_le fun q hq => h40 _ (List.of_mem_zip hq).2
  rw [List.length_zip] at e3
  omega
structure MdAt (ns : List Str) (bs : List (List Rk)) (H : Hp) (t : Addr) (pk : List (List Ro)) (lds : List (Str × List Int)) : Prop where
  ex : ∃ (p o l : Addr) (us ws : List V) (ob : Obj), H t = some (.tup [.ref p, .ref o, .ref l]) ∧ H p = some (.tup us) ∧ Paired (PkAt ns H) us pk ∧ H l = some (.frz ob (.tup ws)) ∧ ob.dict = none ∧ Paired (LdAt H) ws lds
  ok : PkOk ns bs pk
  pl : pk.length ≤ 12
  rl : ∀ P ∈ pk, P.length ≤ 500
  tl : (tags 0 pk).length ≤ 480
  ll : lds.length ≤ 25
  ln : ∀ q ∈ lds, q.1 ∈ ns ∧ q.2.length ≤ 12
noncomputable def spMade : Sp := fun vs H Q _ => ∃ (nl bl : Addr) (c : Int) (ns : List Str) (bs : List (List Rk)), vs = [.ref nl, .ref bl, .int c] ∧ H nl = some (.lst (ns.map V.str)) ∧ BksAt ns H bl bs ∧ ns.Nodup ∧ 1 ≤ ns.length ∧ ns.length ≤ 12 ∧
  ∀ (t : Addr) (pk : List (List Ro)) (lds : List (Str × List Int)) (H' : Hp), Same H H' → MdAt ns bs H' t pk lds → Q (.ref t) H'
theorem ints_flat : ∀ l : List Int, (l.map V.int).all flatV = true
  | [] => rfl
  | _ :: r => ints_flat r
theorem sorted_int (ns : List Int) : ∃ ms : List Int, ns.Perm ms ∧ ms.Pairwise (· ≤ ·) := by
  refine ⟨ns.mergeSort (fun a b => decide (a ≤ b)), (List.mergeSort_perm _ _).symm, ?_⟩
  have := List.pairwise_mergeSort (le := fun a b : Int => decide (a ≤ b)) (fun a b c h1 h2 => by simp at *; omega) (fun a b => by simp; omega) ns
  exact this.imp fun h => by simpa using h
theorem ok_made (T : Txt K mg) : L2.Cl P w K mg base 3 "_law_made" ["_law_names_here", "_law_blocks_here", "_law_cell"] spMade := by
  have C_law_there := ok_there (P := P) (w := w) (base := base) T
  have C_law_roots := ok_roots (P := P) (w := w) (base := base) T
  refine Cl.of T.d_law_made sc_law_made (fun vs H Q E h => ?_) (fun _ _ _ _ _ _ us hl => by obtain ⟨a, b, c, rfl⟩ := len3 hl; rfl) (fun f cdv A outer s H vs Q E hr h => ?_)
  · obtain ⟨nl, bl, c, ns, bs, rfl, _⟩ := h
    rfl
  · obtain ⟨nl, bl, c, ns, bs, rfl, hnl, hbk, hnd, hn1, hn12, q⟩ := h
    have hsz : sizeLine = 16777216 := sizeLine_eq
    refine ⟨_, (@pss_cons _ _ _ _ _ (@ps_set _ _ (3) _ _ _ _ sc_law_made.nd rfl (Or.inr rfl) (@pe_lst _ _ _ _ (@pa_nil _)) (by rfl) (by first   | exact .inl rfl   | exact .inr rfl   | assumption)) (@pss_cons _ _ _ _ _ (@ps_for _ _ _ _ _ _ _ _ PassesOwn.never rfl (@pi_range1 _ _ _ _ _ _ (by rfl) T.n_range (@pa_cons _ _ _ _ _ (@pe_callB _ _ _ _ _ _ _ _ _ (@call_len_seq _) (by rfl) T.n_len PySem.boot_len (@pa_cons _ _ _ _ _ (@pv _ 0 _ _ (by rfl) (by first   | exact Or.inl rfl   | exact Or.inr (Or.inl rfl)   | exact Or.inr (Or.inr rfl)) (by decide) (by decide)) (@pa_nil _) (by rfl)) (by decide) (by decide) (by rfl) (by rfl)) (@pa_nil _) (by rfl)) (by rfl)) (@pg_name _ _ (4) _ sc_law_made.nd rfl (Or.inr rfl) (by first   | exact .inl rfl   | exact .inr rfl   | assumption)) (@pss_one _ _ _ (@ps_expr _ _ _ _ (@pe_bm _ _ _ _ _ _ _ _ _ _ _ _ PySem.F.plainAttrs_list PySem.F.slot_list_append PySem.F.type_list_append (@mt_append _) (@pv _ 3 _ _ (by rfl) (by first   | exact Or.inl rfl   | exact Or.inr (Or.inl rfl)   | exact Or.inr (Or.inr rfl)) (by decide) (by decide)) (@pa_cons _ _ _ _ _ (@pe_op _ _ _ _ _ _ _ _ (@op_mod _) (@pe_op _ _ _ _ _ _ _ _ (@op_fdiv _) (@pv _ 2 _ _ (by rfl) (by first   | exact Or.inl rfl   | exact Or.inr (Or.inl rfl)   | exact Or.inr (Or.inr rfl)) (by decide) (by decide)) (@pe_op _ _ _ _ _ _ _ _ (@op_add _) (@pe_op _ _ _ _ _ _ _ _ (@op_mul _) (@pe_int _ _ _ _) (@pv _ 4 _ _ (by rfl) (by first   | exact Or.inl rfl   | exact Or.inr (Or.inl rfl)   | exact Or.inr (Or.inr rfl)) (by decide) (by decide))) (@pe_int _ _ _ _))) (@pe_op _ _ _ _ _ _ _ _ (@op_add _) (@pe_op _ _ _ _ _ _ _ _ (@op_add _) (@pe_int _ _ _ _) (@pe_callB _ _ _ _ _ _ _ _ _ (@call_maxL _ rfl) (by rfl) T.n_max boot_max (@pa_cons _ _ _ _ _ (@pe_op _ _ _ _ _ _ _ _ (@op_cat _) (@pe_lst _ _ _ _ (@pa_cons _ _ _ _ _ (@pe_un _ _ _ _ _ _ (@un_neg _) (@pe_int _ _ _ _)) (@pa_nil _) (by rfl))) (@pv _ 3 _ _ (by rfl) (by first   | exact Or.inl rfl   | exact Or.inr (Or.inl rfl)   | exact Or.inr (Or.inr rfl)) (by decide) (by decide))) (@pa_nil _) (by rfl)) (by decide) (by decide) (by rfl) (by rfl))) (@pe_int _ _ _ _))) (@pa_nil _) (by rfl)) (by rfl) (by rfl) (by rfl) (by rfl) (by rfl)) (by rfl))) (by intro _; rfl)) (@pss_cons _ _ _ _ _ (@ps_setC _ _ _ _ _ _ _ (["_law_k"]) ([none]) _ _ _ _ (5) _ _ _ (defScope s_law_made) ["_law_names_here", "_law_blocks_here", "_law_cell", "_law_lies", "_law_k", "_law_packs", "_law_origins", "_law_loads", "_law_root", "_law_there_here", "_law_numbers"] ⟨rfl, by decide +kernel, by decide +kernel, by decide +kernel, rfl, by decide +kernel, by decide +kernel⟩ sc_law_made.nd rfl (Or.inl rfl) (@pi_range1 _ _ _ _ _ _ (by rfl) T.n_range (@pa_cons _ _ _ _ _ (@pe_op _ _ _ _ _ _ _ _ (@op_add _) (@pe_int _ _ _ _) (@pe_callB _ _ _ _ _ _ _ _ _ (@call_maxL _ rfl) (by rfl) T.n_max boot_max (@pa_cons _ _ _ _ _ (@pv _ 3 _ _ (by rfl) (by first   | exact Or.inl rfl   | exact Or.inr (Or.inl rfl)   | exact Or.inr (Or.inr rfl)) (by decide) (by decide)) (@pa_nil _) (by rfl)) (by decide) (by decide) (by rfl) (by rfl))) (@pa_nil _) (by rfl)) (by rfl)) (fun _ _ _ _ _ _ => (@pg_name _ _ (0) _ (show (["_law_k"] : List Str).Nodup by decide +kernel) rfl (Or.inl rfl) (by first   | exact .inl rfl   | exact .inr rfl   | assumption))) (fun _ _ _ _ _ _ => @pts_nil _) (fun _ _ _ _ _ _ => (@pe_lst _ _ _ _ (@pa_nil _))) (by rfl) (by rfl) (by rfl) (by rfl) (by intro _; rfl) (by first   | exact .inl rfl   | exact .inr rfl   | assumption)) (@pss_cons _ _ _ _ _ (@ps_setC _ _ _ _ _ _ _ (["_law_k"]) ([none]) _ _ _ _ (6) _ _ _ (defScope s_law_made) ["_law_names_here", "_law_blocks_here", "_law_cell", "_law_lies", "_law_k", "_law_packs", "_law_origins", "_law_loads", "_law_root", "_law_there_here", "_law_numbers"] ⟨rfl, by decide +kernel, by decide +kernel, by decide +kernel, rfl, by decide +kernel, by decide +kernel⟩ sc_law_made.nd rfl (Or.inl rfl) (@pi_range1 _ _ _ _ _ _ (by rfl) T.n_range (@pa_cons _ _ _ _ _ (@pe_op _ _ _ _ _ _ _ _ (@op_add _) (@pe_int _ _ _ _) (@pe_callB _ _ _ _ _ _ _ _ _ (@call_maxL _ rfl) (by rfl) T.n_max boot_max (@pa_cons _ _ _ _ _ (@pv _ 3 _ _ (by rfl) (by first   | exact Or.inl rfl   | exact Or.inr (Or.inl rfl)   | exact Or.inr (Or.inr rfl)) (by decide) (by decide)) (@pa_nil _) (by rfl)) (by decide) (by decide) (by rfl) (by rfl))) (@pa_nil _) (by rfl)) (by rfl)) (fun _ _ _ _ _ _ => (@pg_name _ _ (0) _ (show (["_law_k"] : List Str).Nodup by decide +kernel) rfl (Or.inl rfl) (by first   | exact .inl rfl   | exact .inr rfl   | assumption))) (fun _ _ _ _ _ _ => @pts_nil _) (fun _ _ _ _ _ _ => (@pe_lst _ _ _ _ (@pa_nil _))) (by rfl) (by rfl) (by rfl) (by rfl) (by intro _; rfl) (by first   | exact .inl rfl   | exact .inr rfl   | assumption)) (@pss_cons _ _ _ _ _ (@ps_for _ _ _ _ _ _ _ _ PassesOwn.never rfl (@pi_range1 _ _ _ _ _ _ (by rfl) T.n_range (@pa_cons _ _ _ _ _ (@pe_callB _ _ _ _ _ _ _ _ _ (@call_len_seq _) (by rfl) T.n_len PySem.boot_len (@pa_cons _ _ _ _ _ (@pv _ 0 _ _ (by rfl) (by first   | exact Or.inl rfl   | exact Or.inr (Or.inl rfl)   | exact Or.inr (Or.inr rfl)) (by decide) (by decide)) (@pa_nil _) (by rfl)) (by decide) (by decide) (by rfl) (by rfl)) (@pa_nil _) (by rfl)) (by rfl)) (@pg_name _ _ (4) _ sc_law_made.nd rfl (Or.inr rfl) (by first   | exact .inl rfl   | exact .inr rfl   | assumption)) (@pss_cons _ _ _ _ _ (@ps_expr _ _ _ _ (@pe_bm _ _ _ _ _ _ _ _ _ _ _ _ PySem.F.plainAttrs_list PySem.F.slot_list_extend PySem.F.type_list_extend (@mt_extend _) (@pe_ix _ _ _ _ _ _ _ ix_list (@pv _ 5 _ _ (by rfl) (by first   | exact Or.inl rfl   | exact Or.inr (Or.inl rfl)   | exact Or.inr (Or.inr rfl)) (by decide) (by decide)) (@pe_ix _ _ _ _ _ _ _ ix_list (@pv _ 3 _ _ (by rfl) (by first   | exact Or.inl rfl   | exact Or.inr (Or.inl rfl)   | exact Or.inr (Or.inr rfl)) (by decide) (by decide)) (@pv _ 4 _ _ (by rfl) (by first   | exact Or.inl rfl   | exact Or.inr (Or.inl rfl)   | exact Or.inr (Or.inr rfl)) (by decide) (by decide)) (fun _ _ => rfl)) (fun _ _ => rfl)) (@pa_cons _ _ _ _ _ (@pe_op _ _ _ _ _ _ _ _ (@op_cat _) (@pe_lst _ _ _ _ (@pa_cons _ _ _ _ _ (@pe_tup _ _ _ _ _ (@pa_cons _ _ _ _ _ (@pe_str _ _ _ _) (@pa_cons _ _ _ _ _ (@pe_ix _ _ _ _ _ _ _ ix_list (@pv _ 0 _ _ (by rfl) (by first   | exact Or.inl rfl   | exact Or.inr (Or.inl rfl)   | exact Or.inr (Or.inr rfl)) (by decide) (by decide)) (@pv _ 4 _ _ (by rfl) (by first   | exact Or.inl rfl   | exact Or.inr (Or.inl rfl)   | exact Or.inr (Or.inr rfl)) (by decide) (by decide)) (fun _ _ => rfl)) (@pa_nil _) (by rfl)) (by rfl))) (@pa_nil _) (by rfl))) (@pe_ix _ _ _ _ _ _ _ ix_list (@pv _ 1 _ _ (by rfl) (by first   | exact Or.inl rfl   | exact Or.inr (Or.inl rfl)   | exact Or.inr (Or.inr rfl)) (by decide) (by decide)) (@pv _ 4 _ _ (by rfl) (by first   | exact Or.inl rfl   | exact Or.inr (Or.inl rfl)   | exact Or.inr (Or.inr rfl)) (by decide) (by decide)) (fun _ _ => rfl))) (@pa_nil _) (by rfl)) (by rfl) (by rfl) (by rfl) (by rfl) (by rfl)) (by rfl)) (@pss_one _ _ _ (@ps_expr _ _ _ _ (@pe_bm _ _ _ _ _ _ _ _ _ _ _ _ PySem.F.plainAttrs_list PySem.F.slot_list_extend PySem.F.type_list_extend (@mt_extend _) (@pe_ix _ _ _ _ _ _ _ ix_list (@pv _ 6 _ _ (by rfl) (by first   | exact Or.inl rfl   | exact Or.inr (Or.inl rfl)   | exact Or.inr (Or.inr rfl)) (by decide) (by decide)) (@pe_ix _ _ _ _ _ _ _ ix_list (@pv _ 3 _ _ (by rfl) (by first   | exact Or.inl rfl   | exact Or.inr (Or.inl rfl)   | exact Or.inr (Or.inr rfl)) (by decide) (by decide)) (@pv _ 4 _ _ (by rfl) (by first   | exact Or.inl rfl   | exact Or.inr (Or.inl rfl)   | exact Or.inr (Or.inr rfl)) (by decide) (by decide)) (fun _ _ => rfl)) (fun _ _ => rfl)) (@pa_cons _ _ _ _ _ (@pe_op _ _ _ _ _ _ _ _ (@op_cat _) (@pe_lst _ _ _ _ (@pa_cons _ _ _ _ _ (@pe_tup _ _ _ _ _ (@pa_cons _ _ _ _ _ (@pe_ix _ _ _ _ _ _ _ ix_list (@pv _ 0 _ _ (by rfl) (by first   | exact Or.inl rfl   | exact Or.inr (Or.inl rfl)   | exact Or.inr (Or.inr rfl)) (by decide) (by decide)) (@pv _ 4 _ _ (by rfl) (by first   | exact Or.inl rfl   | exact Or.inr (Or.inl rfl)   | exact Or.inr (Or.inr rfl)) (by decide) (by decide)) (fun _ _ => rfl)) (@pa_cons _ _ _ _ _ (@pe_non _ _ _) (@pa_nil _) (by rfl)) (by rfl))) (@pa_nil _) (by rfl))) (@pe_comp _ _ _ _ _ _ _ (["_law_at", "_law_names_here", "_law_k"]) ([none, some 0, some 4]) _ _ _ _ (defScope s_law_made) ["_law_names_here", "_law_blocks_here", "_law_cell", "_law_lies", "_law_k", "_law_packs", "_law_origins", "_law_loads", "_law_root", "_law_there_here", "_law_numbers"] ⟨rfl, by decide +kernel, by decide +kernel, by decide +kernel, rfl, by decide +kernel, by decide +kernel⟩ (@pi_range1 _ _ _ _ _ _ (by rfl) T.n_range (@pa_cons _ _ _ _ _ (@pe_callB _ _ _ _ _ _ _ _ _ (@call_len_seq _) (by rfl) T.n_len PySem.boot_len (@pa_cons _ _ _ _ _ (@pe_ix _ _ _ _ _ _ _ ix_list (@pv _ 1 _ _ (by rfl) (by first   | exact Or.inl rfl   | exact Or.inr (Or.inl rfl)   | exact Or.inr (Or.inr rfl)) (by decide) (by decide)) (@pv _ 4 _ _ (by rfl) (by first   | exact Or.inl rfl   | exact Or.inr (Or.inl rfl)   | exact Or.inr (Or.inr rfl)) (by decide) (by decide)) (fun _ _ => rfl)) (@pa_nil _) (by rfl)) (by decide) (by decide) (by rfl) (by rfl)) (@pa_nil _) (by rfl)) (by rfl)) (fun _ _ _ _ _ _ => (@pg_name _ _ (0) _ (show (["_law_at", "_law_names_here", "_law_k"] : List Str).Nodup by decide +kernel) rfl (Or.inl rfl) (by first   | exact .inl rfl   | exact .inr rfl   | assumption))) (fun _ _ _ _ _ _ => @pts_nil _) (fun _ _ _ _ _ _ => (@pe_tup _ _ _ _ _ (@pa_cons _ _ _ _ _ (@pe_ix _ _ _ _ _ _ _ (@ix_listK _ (K) rfl) (@pv _ 1 _ _ (by rfl) (by first   | exact Or.inl rfl   | exact Or.inr (Or.inl rfl)   | exact Or.inr (Or.inr rfl)) (by decide) (by decide)) (@pv _ 2 _ _ (by rfl) (by first   | exact Or.inl rfl   | exact Or.inr (Or.inl rfl)   | exact Or.inr (Or.inr rfl)) (by decide) (by decide)) (fun _ _ => rfl)) (@pa_cons _ _ _ _ _ (@pv _ 0 _ _ (by rfl) (by first   | exact Or.inl rfl   | exact Or.inr (Or.inl rfl)   | exact Or.inr (Or.inr rfl)) (by decide) (by decide)) (@pa_nil _) (by rfl)) (by rfl)))) (by rfl) (by rfl) (by rfl) (by intro _; rfl))) (@pa_nil _) (by rfl)) (by rfl) (by rfl) (by rfl) (by rfl) (by rfl)) (by rfl)))) (by intro _; rfl)) (@pss_cons _ _ _ _ _ (@ps_set _ _ (7) _ _ _ _ sc_law_made.nd rfl (Or.inl rfl) (@pe_lst _ _ _ _ (@pa_nil _)) (by rfl) (by first   | exact .inl rfl   | exact .inr rfl   | assumption)) (@pss_cons _ _ _ _ _ (@ps_for _ _ _ _ _ _ _ _ PassesOwn.never rfl (@pi_list _ _ _ _ (@pe_fn _ _ _ _ _ _ _ _ _ _ _ C_law_roots hr (by rfl) (@pa_cons _ _ _ _ _ (@pv _ 0 _ _ (by rfl) (by first   | exact Or.inl rfl   | exact Or.inr (Or.inl rfl)   | exact Or.inr (Or.inr rfl)) (by decide) (by decide)) (@pa_cons _ _ _ _ _ (@pv _ 1 _ _ (by rfl) (by first   | exact Or.inl rfl   | exact Or.inr (Or.inl rfl)   | exact Or.inr (Or.inr rfl)) (by decide) (by decide)) (@pa_cons _ _ _ _ _ (@pv _ 2 _ _ (by rfl) (by first   | exact Or.inl rfl   | exact Or.inr (Or.inl rfl)   | exact Or.inr (Or.inr rfl)) (by decide) (by decide)) (@pa_nil _) (by rfl)) (by rfl)) (by rfl)) (by decide) (by decide) (by rfl) (by rfl))) (@pg_name _ _ (8) _ sc_law_made.nd rfl (Or.inl rfl) (by first   | exact .inl rfl   | exact .inr rfl   | assumption)) (@pss_cons _ _ _ _ _ (@ps_set _ _ (9) _ _ _ _ sc_law_made.nd rfl (Or.inl rfl) (@pe_fn _ _ _ _ _ _ _ _ _ _ _ C_law_there hr (by rfl) (@pa_cons _ _ _ _ _ (@pv _ 0 _ _ (by rfl) (by first   | exact Or.inl rfl   | exact Or.inr (Or.inl rfl)   | exact Or.inr (Or.inr rfl)) (by decide) (by decide)) (@pa_cons _ _ _ _ _ (@pv _ 1 _ _ (by rfl) (by first   | exact Or.inl rfl   | exact Or.inr (Or.inl rfl)   | exact Or.inr (Or.inr rfl)) (by decide) (by decide)) (@pa_cons _ _ _ _ _ (@pv _ 8 _ _ (by rfl) (by first   | exact Or.inl rfl   | exact Or.inr (Or.inl rfl)   | exact Or.inr (Or.inr rfl)) (by decide) (by decide)) (@pa_cons _ _ _ _ _ (@pe_tup _ _ _ _ _ (@pa_cons _ _ _ _ _ (@pe_str _ _ _ _) (@pa_nil _) (by rfl))) (@pa_nil _) (by rfl)) (by rfl)) (by rfl)) (by rfl)) (by decide) (by decide) (by rfl) (by rfl)) (by rfl) (by first   | exact .inl rfl   | exact .inr rfl   | assumption)) (@pss_cons _ _ _ _ _ (@ps_set _ _ (10) _ _ _ _ sc_law_made.nd rfl (Or.inr rfl) (@pe_callB _ _ _ _ _ _ _ _ _ (@call_sortedP _) (by rfl) T.n_sorted boot_sorted (@pa_cons _ _ _ _ _ (@pe_comp _ _ _ _ _ _ _ (["_law_part", "_law_lies", "_law_names_here"]) ([none, some 3, some 0]) _ _ _ _ (defScope s_law_made) ["_law_names_here", "_law_blocks_here", "_law_cell", "_law_lies", "_law_k", "_law_packs", "_law_origins", "_law_loads", "_law_root", "_law_there_here", "_law_numbers"] ⟨rfl, by decide +kernel, by decide +kernel, by decide +kernel, rfl, by decide +kernel, by decide +kernel⟩ (@pi_list _ _ _ _ (@pv _ 9 _ _ (by rfl) (by first   | exact Or.inl rfl   | exact Or.inr (Or.inl rfl)   | exact Or.inr (Or.inr rfl)) (by decide) (by decide))) (fun _ _ _ _ _ _ => (@pg_name _ _ (0) _ (show (["_law_part", "_law_lies", "_law_names_here"] : List Str).Nodup by decide +kernel) rfl (Or.inl rfl) (by first   | exact .inl rfl   | exact .inr rfl   | assumption))) (fun _ _ _ _ _ _ => @pts_nil _) (fun _ _ _ _ _ _ => (@pe_ix _ _ _ _ _ _ _ (@ix_listK _ (K) rfl) (@pv _ 1 _ _ (by rfl) (by first   | exact Or.inl rfl   | exact Or.inr (Or.inl rfl)   | exact Or.inr (Or.inr rfl)) (by decide) (by decide)) (@pe_bmK _ (K) rfl _ _ _ _ _ _ _ _ _ _ _ PySem.F.plainAttrs_list PySem.F.slot_list_index PySem.F.type_list_index (@mt_indexK _ (K) rfl) (@pv _ 2 _ _ (by rfl) (by first   | exact Or.inl rfl   | exact Or.inr (Or.inl rfl)   | exact Or.inr (Or.inr rfl)) (by decide) (by decide)) (@pa_cons _ _ _ _ _ (@pv _ 0 _ _ (by rfl) (by first   | exact Or.inl rfl   | exact Or.inr (Or.inl rfl)   | exact Or.inr (Or.inr rfl)) (by decide) (by decide)) (@pa_nil _) (by rfl)) (by rfl) (by rfl) (by rfl) (by rfl) (by rfl)) (fun _ _ => rfl))) (by rfl) (by rfl) (by rfl) (by intro _; rfl)) (@pa_nil _) (by rfl)) (by decide) (by decide) (by rfl) (by rfl)) (by rfl) (by first   | exact .inl rfl   | exact .inr rfl   | assumption)) (@pss_one _ _ _ (@ps_expr _ _ _ _ (@pe_bm _ _ _ _ _ _ _ _ _ _ _ _ PySem.F.plainAttrs_list PySem.F.slot_list_append PySem.F.type_list_append (@mt_append _) (@pv _ 7 _ _ (by rfl) (by first   | exact Or.inl rfl   | exact Or.inr (Or.inl rfl)   | exact Or.inr (Or.inr rfl)) (by decide) (by decide)) (@pa_cons _ _ _ _ _ (@pe_tup _ _ _ _ _ (@pa_cons _ _ _ _ _ (@pv _ 8 _ _ (by rfl) (by first   | exact Or.inl rfl   | exact Or.inr (Or.inl rfl)   | exact Or.inr (Or.inr rfl)) (by decide) (by decide)) (@pa_cons _ _ _ _ _ (@pe_callTy _ _ _ _ _ _ _ _ _ (@call_tuple_of _) (by rfl) T.n_tuple boot_tuple (@pa_cons _ _ _ _ _ (@pe_comp _ _ _ _ _ _ _ (["_law_k", "_law_numbers"]) ([none, some 10]) _ _ _ _ (defScope s_law_made) ["_law_names_here", "_law_blocks_here", "_law_cell", "_law_lies", "_law_k", "_law_packs", "_law_origins", "_law_loads", "_law_root", "_law_there_here", "_law_numbers"] ⟨rfl, by decide +kernel, by decide +kernel, by decide +kernel, rfl, by decide +kernel, by decide +kernel⟩ (@pi_range1 _ _ _ _ _ _ (by rfl) T.n_range (@pa_cons _ _ _ _ _ (@pe_callB _ _ _ _ _ _ _ _ _ (@call_len_seq _) (by rfl) T.n_len PySem.boot_len (@pa_cons _ _ _ _ _ (@pv _ 5 _ _ (by rfl) (by first   | exact Or.inl rfl   | exact Or.inr (Or.inl rfl)   | exact Or.inr (Or.inr rfl)) (by decide) (by decide)) (@pa_nil _) (by rfl)) (by decide) (by decide) (by rfl) (by rfl)) (@pa_nil _) (by rfl)) (by rfl)) (fun _ _ _ _ _ _ => (@pg_name _ _ (0) _ (show (["_law_k", "_law_numbers"] : List Str).Nodup by decide +kernel) rfl (Or.inl rfl) (by first   | exact .inl rfl   | exact .inr rfl   | assumption))) (fun _ _ _ _ _ _ => (@pts_one _ _ _ (@pt_cmpR _ _ _ _ _ _ _ _ (@op_in_seqK _ (K) rfl) (@pv _ 0 _ _ (by rfl) (by first   | exact Or.inl rfl   | exact Or.inr (Or.inl rfl)   | exact Or.inr (Or.inr rfl)) (by decide) (by decide)) (@pv _ 1 _ _ (by rfl) (by first   | exact Or.inl rfl   | exact Or.inr (Or.inl rfl)   | exact Or.inr (Or.inr rfl)) (by decide) (by decide)) (by with_unfolding_all rfl)))) (fun _ _ _ _ _ _ => (@pv _ 0 _ _ (by rfl) (by first   | exact Or.inl rfl   | exact Or.inr (Or.inl rfl)   | exact Or.inr (Or.inr rfl)) (by decide) (by decide))) (by rfl) (by rfl) (by rfl) (by intro _; rfl)) (@pa_nil _) (by rfl)) (by decide) (by decide) (by rfl) (by rfl)) (@pa_nil _) (by rfl)) (by rfl))) (@pa_nil _) (by rfl)) (by rfl) (by rfl) (by rfl) (by rfl) (by rfl)) (by rfl))))) (by intro _; rfl)) (@pss_one _ _ _ (@ps_ret _ _ _ _ (@pe_tup _ _ _ _ _ (@pa_cons _ _ _ _ _ (@pe_callTy _ _ _ _ _ _ _ _ _ (@call_tuple_of _) (by rfl) T.n_tuple boot_tuple (@pa_cons _ _ _ _ _ (@pe_comp _ _ _ _ _ _ _ (["_law_pack"]) ([none]) _ _ _ _ (defScope s_law_made) ["_law_names_here", "_law_blocks_here", "_law_cell", "_law_lies", "_law_k", "_law_packs", "_law_origins", "_law_loads", "_law_root", "_law_there_here", "_law_numbers"] ⟨rfl, by decide +kernel, by decide +kernel, by decide +kernel, rfl, by decide +kernel, by decide +kernel⟩ (@pi_list _ _ _ _ (@pv _ 5 _ _ (by rfl) (by first   | exact Or.inl rfl   | exact Or.inr (Or.inl rfl)   | exact Or.inr (Or.inr rfl)) (by decide) (by decide))) (fun _ _ _ _ _ _ => (@pg_name _ _ (0) _ (show (["_law_pack"] : List Str).Nodup by decide +kernel) rfl (Or.inl rfl) (by first   | exact .inl rfl   | exact .inr rfl   | assumption))) (fun _ _ _ _ _ _ => @pts_nil _) (fun _ _ _ _ _ _ => (@pe_callTy _ _ _ _ _ _ _ _ _ (@call_tuple_ofK _ (K) rfl) (by rfl) T.n_tuple boot_tuple (@pa_cons _ _ _ _ _ (@pv _ 0 _ _ (by rfl) (by first   | exact Or.inl rfl   | exact Or.inr (Or.inl rfl)   | exact Or.inr (Or.inr rfl)) (by decide) (by decide)) (@pa_nil _) (by rfl)) (by decide) (by decide) (by rfl) (by rfl))) (by rfl) (by rfl) (by rfl) (by intro _; rfl)) (@pa_nil _) (by rfl)) (by decide) (by decide) (by rfl) (by rfl)) (@pa_cons _ _ _ _ _ (@pe_callTy _ _ _ _ _ _ _ _ _ (@call_tuple_of _) (by rfl) T.n_tuple boot_tuple (@pa_cons _ _ _ _ _ (@pe_comp _ _ _ _ _ _ _ (["_law_some"]) ([none]) _ _ _ _ (defScope s_law_made) ["_law_names_here", "_law_blocks_here", "_law_cell", "_law_lies", "_law_k", "_law_packs", "_law_origins", "_law_loads", "_law_root", "_law_there_here", "_law_numbers"] ⟨rfl, by decide +kernel, by decide +kernel, by decide +kernel, rfl, by decide +kernel, by decide +kernel⟩ (@pi_list _ _ _ _ (@pv _ 6 _ _ (by rfl) (by first   | exact Or.inl rfl   | exact Or.inr (Or.inl rfl)   | exact Or.inr (Or.inr rfl)) (by decide) (by decide))) (fun _ _ _ _ _ _ => (@pg_name _ _ (0) _ (show (["_law_some"] : List Str).Nodup by decide +kernel) rfl (Or.inl rfl) (by first   | exact .inl rfl   | exact .inr rfl   | assumption))) (fun _ _ _ _ _ _ => @pts_nil _) (fun _ _ _ _ _ _ => (@pe_callTy _ _ _ _ _ _ _ _ _ (@call_tuple_ofK _ (K) rfl) (by rfl) T.n_tuple boot_tuple (@pa_cons _ _ _ _ _ (@pv _ 0 _ _ (by rfl) (by first   | exact Or.inl rfl   | exact Or.inr (Or.inl rfl)   | exact Or.inr (Or.inr rfl)) (by decide) (by decide)) (@pa_nil _) (by rfl)) (by decide) (by decide) (by rfl) (by rfl))) (by rfl) (by rfl) (by rfl) (by intro _; rfl)) (@pa_nil _) (by rfl)) (by decide) (by decide) (by rfl) (by rfl)) (@pa_cons _ _ _ _ _ (@pe_callTy _ _ _ _ _ _ _ _ _ (@call_tuple_ofF _) (by rfl) T.n_tuple boot_tuple (@pa_cons _ _ _ _ _ (@pv _ 7 _ _ (by rfl) (by first   | exact Or.inl rfl   | exact Or.inr (Or.inl rfl)   | exact Or.inr (Or.inr rfl)) (by decide) (by decide)) (@pa_nil _) (by rfl)) (by decide) (by decide) (by rfl) (by rfl)) (@pa_nil _) (by rfl)) (by rfl)) (by rfl)))))))))))), ?_⟩
    refine ⟨(by show 0 ≤ sizeLine; decide), fun L gL => ?_⟩
    have hnL : nl ≠ L := fun z => by rw [z, gL] at hnl; cases hnl
    refine ⟨_, rfl, nl, _, rfl, .inl (SqL.of (upd_keep hnl gL)), _, rfl, (by omega), (by rw [List.length_map]; omega), ?_⟩
    rw [List.length_map]
    refine for_range (n := ns.length) (fun i σ H2 => ∃ (ls : List Int) (v4 : Option V), σ = [some (.ref nl), some (.ref bl), some (.int c), some (.ref L), v4, none, none, none, none, none, none] ∧ Same H H2 ∧ H2 L = some (.lst (ls.map V.int)) ∧ ls.length = i ∧ ∀ x ∈ ls, 0 ≤ x ∧ x < (i : Int)) ⟨[], none, rfl, (Same.refl H).new gL, upd_same, rfl, by simp⟩ ?_ ?_
    · rintro i σ H2 hi ⟨ls, v4, rfl, s2, hL, hll, hlb⟩
      refine ⟨_, rfl, .inl ⟨rfl, _, SqL.of hL⟩, _, rfl, _, rfl, _, _, rfl, rfl, .inl ⟨by decide, by decide⟩, _, _, rfl, rfl, _, _, rfl, rfl, ⟨by omega, by omega⟩, ?_⟩
      refine ⟨_, rfl, (by show 1 ≤ sizeLine; decide), fun z gz => ?_⟩
      refine ⟨_, rfl, z, L, _, _, rfl, rfl, upd_same, upd_keep hL gz, (by show 1 + _ ≤ sizeLine; rw [List.length_map]; omega), fun p gp => ?_⟩
      refine ⟨p, -1 :: ls, rfl, SqL.of upd_same, by simp, fun mx hmx hmax => ?_⟩
      have hmx0 : -1 ≤ mx := hmax _ List.mem_cons_self
      have hmxi : mx < (i : Int) := by
        rcases List.mem_cons.mp hmx with z | z
        · omega
        · exact (hlb mx z).2
      have mm := mod_in (i := c / (2 * (0 + (i : Int)) + 1)) (n := 1 + mx + 1) (by omega)
      refine ⟨_, _, rfl, rfl, _, _, rfl, rfl, _, _, rfl, rfl, (by show (0 : Int) < 1 + mx + 1; omega), ?_⟩
      have hL3 := upd_keep (o := .lst ([V.int (-1)] ++ ls.map V.int)) (upd_keep (o := .lst [V.int (-1)]) hL gz) gp
      refine ⟨L, _, _, rfl, rfl, hL3, small1000 (by rw [List.length_map]; omega), ls ++ [_], _, rfl, ((s2.new gz).new gp).put gL, by rw [upd_same, List.map_append]; rfl, by rw [List.length_append, hll]; rfl, fun x hx => ?_⟩
      rcases List.mem_append.mp hx with z | z
      · have := hlb x z; omega
      · rw [List.mem_singleton.mp z]; omega
    · rintro σ H2 ⟨ls, v4, rfl, s2, hL, hll, hlb⟩
      have hne : ls ≠ [] := fun z => by rw [z] at hll; simp at hll; omega
      refine ⟨_, rfl, L, ls, rfl, SqL.of hL, hne, fun mx hmx hmax => ?_⟩
      have hmx0 := hlb mx hmx
      refine ⟨_, _, rfl, rfl, _, rfl, (by omega), (by omega), fun Pa gP => ?_⟩
      refine comp_newR (K := K) (m := (1 + mx).toNat) gP (by omega) fun pa H3 s3 hP3 hpa hpaN hpaA => ?_
      have hL3 := s3 _ _ hL
      refine ⟨_, rfl, L, ls, rfl, SqL.of hL3, hne, fun mx' hmx' hmax' => ?_⟩
      have emx : mx' = mx := by
        have a1 := hmax mx' hmx'
        have a2 := hmax' mx hmx
        omega
      subst emx
      refine ⟨_, _, rfl, rfl, _, rfl, (by omega), (by omega), fun Oa gO => ?_⟩
      refine comp_newR (K := K) (m := (1 + mx').toNat) gO (by omega) fun oa H4 s4 hO4 hoa hoaN hoaA => ?_
      have hL4 := s4 _ _ hL3
      have aq : Aq H2 Pa Oa pa oa := by
        have pA : ∀ b ∈ pa, H2 b = none ∧ H3 b = some (.lst []) ∧ b ≠ Pa := fun b hb => ⟨(hpaA b hb).1, (hpaA b hb).2.2, (hpaA b hb).2.1⟩
        have oA : ∀ b ∈ oa, H3 b = none ∧ b ≠ Oa := fun b hb => ⟨(hoaA b hb).1, (hoaA b hb).2.1⟩
        refine ⟨hpaN, fun b hb => ?_, fun b hb z => ?_, gP, s3.free gO⟩
        · rcases hb with z | z
          · obtain ⟨h1, h2, h3⟩ := pA b z
            exact ⟨h1, h3, fun e => by rw [e, gO] at h2; cases h2⟩
          · obtain ⟨h1, h2⟩ := oA b z
            exact ⟨s3.free h1, (fun e => by rw [e, hP3] at h1; cases h1), h2⟩
        · have h2 := (pA b hb).2.1
          rw [(oA b z).1] at h2
          cases h2
      have g0 : Gq ns H2 Pa Oa pa oa (List.replicate pa.length []) 0 0 H4 := by
        refine ⟨s3.trans s4, s4 _ _ hP3, hO4, by simp, fun l b Pl h1 h2 => ?_, fun b hb => ⟨[], (hoaA b hb).2.2, by simp⟩⟩
        have : Pl = [] := List.eq_of_mem_replicate (List.mem_of_getElem? h2)
        subst this
        exact ⟨[], s4 _ _ (hpaA b (List.mem_of_getElem? h1)).2.2, .nil, by simp⟩
      have hnl4 := g0.sm _ _ (s2 _ _ hnl)
      refine ⟨_, rfl, nl, _, rfl, .inl (SqL.of hnl4), _, rfl, (by omega), (by rw [List.length_map]; omega), ?_⟩
      rw [List.length_map]
      refine for_range (n := ns.length) (fun i σ H5 => ∃ (pk : List (List Ro)) (v4 : Option V), σ = [some (.ref nl), some (.ref bl), some (.int c), some (.ref L), v4, some (.ref Pa), some (.ref Oa), none, none, none, none] ∧ Gq ns H2 Pa Oa pa oa pk (41 * i) (41 * i) H5 ∧ Pq ns bs i pk) ⟨_, _, rfl, g0, Pq.zero _⟩ ?_ ?_
      · rintro i σ H5 hi ⟨pk, v4', rfl, g5, p5⟩
        have s5 := s2.trans g5.sm
        have hL5 := g5.sm _ _ hL
        obtain ⟨bvs, hbl, hbp, hbsl, hb40⟩ := hbk.same s5
        have hn : ns[i]? = some ns[i] := List.getElem?_eq_getElem hi
        generalize ns[i] = n at hn
        have hrs : bs[i]? = some bs[i] := List.getElem?_eq_getElem (by omega)
        obtain ⟨bv, hbv, b, rfl, hb, hra⟩ := Paired.get?' hbp hrs
        have hr40 := hb40 _ (List.mem_of_getElem? hrs)
        generalize bs[i] = rs at hrs hb hra hr40
        have e1 : (0 : Int) + (i : Int) = ((i : Nat) : Int) := by omega
        have hls : ls[i]? = some ls[i] := List.getElem?_eq_getElem (by omega)
        have hly := hlb _ (List.mem_of_getElem? hls)
        have hlm := hmax _ (List.mem_of_getElem? hls)
        generalize ls[i] = y at hls hly hlm
        have ay : atI (ls.map V.int) (0 + (i : Int)) = some (.int y) := by rw [e1]; exact atI_nat (by rw [List.getElem?_map, hls]; rfl)
        have an : atI (ns.map V.str) (0 + (i : Int)) = some (.str n) := by rw [e1]; exact atI_nat (by rw [List.getElem?_map, hn]; rfl)
        have ab : atI bvs (0 + (i : Int)) = some (.ref b) := by rw [e1]; exact atI_nat hbv
        have hy : y.toNat < pa.length := by omega
        have hpy : pa[y.toNat]? = some pa[y.toNat] := List.getElem?_eq_getElem hy
        have apa : atI (pa.map V.ref) y = some (.ref pa[y.toNat]) := by
          have := atI_nat (xs := pa.map V.ref) (j := y.toNat) (v := .ref pa[y.toNat]) (by rw [List.getElem?_map, hpy]; rfl)
          rw [show ((y.toNat : Nat) : Int) = y by omega] at this
          exact this
        obtain ⟨ob', hob', aoa⟩ := at_ref (l := oa) (n := oa.length) rfl hly.1 (by omega)
        generalize pa[y.toNat] = pb at hpy apa
        obtain ⟨Pl, hpk⟩ : ∃ Pl, pk[y.toNat]? = some Pl := ⟨_, List.getElem?_eq_getElem (by rw [g5.ln]; exact hy)⟩
        obtain ⟨vs, hvs, hvp, hvl⟩ := g5.rw _ _ _ hpy hpk
        refine ⟨_, rfl, _, rfl, _, rfl, L, _, _, _, rfl, rfl, SqL.of hL5, ay, Pa, _, _, _, rfl, rfl, SqL.of g5.hP, apa, .inl ⟨rfl, _, SqL.of hvs⟩, ?_⟩
        refine ⟨_, rfl, _, rfl, nl, _, _, _, rfl, rfl, SqL.of (s5 _ _ hnl), an, (by show 2 ≤ sizeLine; decide), fun tp gtp => ?_⟩
        have u1 : Same H5 (upd H5 tp (.tup [.str "part", .str n])) := (Same.refl H5).new gtp
        have htp : upd H5 tp (.tup [.str "part", .str n]) tp = some (.tup [.str "part", .str n]) := upd_same
        generalize upd H5 tp (.tup [.str "part", .str n]) = H6 at u1 htp ⊢
        refine ⟨(by show 1 ≤ sizeLine; decide), fun z gz => ?_⟩
        have u2 : Same H6 (upd H6 z (.lst [.ref tp])) := (Same.refl H6).new gz
        have hz : upd H6 z (.lst [.ref tp]) z = some (.lst [.ref tp]) := upd_same
        generalize upd H6 z (.lst [.ref tp]) = H7 at u2 hz ⊢
        have u12 := u1.trans u2
        refine ⟨_, rfl, _, rfl, bl, _, _, _, rfl, rfl, SqL.of (u12 _ _ hbl), ab, z, b, _, _, rfl, rfl, hz, u12 _ _ hb, (by show 1 + _ ≤ sizeLine; rw [List.length_map]; omega), fun p gp => ?_⟩
        have u3 : Same H7 (upd H7 p (.lst ([.ref tp] ++ rs.map fun r => V.ref r.a))) := (Same.refl H7).new gp
        have hp : upd H7 p (.lst ([.ref tp] ++ rs.map fun r => V.ref r.a)) p = some (.lst ([.ref tp] ++ rs.map fun r => V.ref r.a)) := upd_same
        generalize upd H7 p (.lst ([.ref tp] ++ rs.map fun r => V.ref r.a)) = H8 at u3 hp ⊢
        have u13 := u12.trans u3
        have hws : Paired (RoAt ns H8) ([V.ref tp] ++ rs.map fun r => V.ref r.a) (.part n :: rs.map Ro.row) := by
          have : ∀ l : List Rk, (∀ r ∈ l, RkAt ns H8 r) → Paired (RoAt ns H8) (l.map fun r => V.ref r.a) (l.map Ro.row) := by
            intro l
            induction l with
            | nil => exact fun _ => .nil
            | cons a t ih => exact fun h => .cons ⟨rfl, h a List.mem_cons_self⟩ (ih fun r hr => h r (List.mem_cons_of_mem _ hr))
          exact .cons ⟨tp, rfl, u3 _ _ (u2 _ _ htp)⟩ (this rs fun r hr => (hra r hr).mono u13.tups)
        have hwl : ([V.ref tp] ++ rs.map fun r => V.ref r.a).length = 1 + rs.length := by rw [List.length_append, List.length_map]; rfl
        refine ⟨pb, p, _, _, rfl, rfl, u13 _ _ hvs, hp, (by rw [hwl]; omega), ?_⟩
        have g9 := (g5.up u13).putP aq (j' := 41 * (i + 1)) hpy hpk (u13 _ _ hvs) (Paired.mapP hvp fun _ _ z => z.mono u13.tups) hws (by omega) (by rw [hwl]; omega)
        have p9 := p5.more hpk hn hrs
        generalize upd H8 pb _ = H9 at g9 ⊢
        have s9 := s2.trans g9.sm
        have hL9 := g9.sm _ _ hL
        obtain ⟨bvs9, hbl9, hbp9, _, _⟩ := hbk.same s9
        have hnl9 := s9 _ _ hnl
        obtain ⟨bv9, hbv9, b9, rfl, hb9, _⟩ := Paired.get?' hbp9 hrs
        have ab9 : atI bvs9 (0 + (i : Int)) = some (.ref b9) := by rw [e1]; exact atI_nat hbv9
        obtain ⟨ovs, hovs, hovl⟩ := g9.ro _ hob'
        refine ⟨_, rfl, _, rfl, _, rfl, L, _, _, _, rfl, rfl, SqL.of hL9, ay, Oa, _, _, _, rfl, rfl, SqL.of g9.hO, aoa, .inl ⟨rfl, _, SqL.of hovs⟩, ?_⟩
        refine ⟨_, rfl, _, rfl, nl, _, _, _, rfl, rfl, SqL.of hnl9, an, (by show 2 ≤ sizeLine; decide), fun tq gtq => ?_⟩
        have w1 : Same H9 (upd H9 tq (.tup [.str n, .non])) := (Same.refl H9).new gtq
        generalize upd H9 tq (.tup [.str n, .non]) = H10 at w1 ⊢
        refine ⟨(by show 1 ≤ sizeLine; decide), fun z2 gz2 => ?_⟩
        have w2 : Same H10 (upd H10 z2 (.lst [.ref tq])) := (Same.refl H10).new gz2
        have hz2 : upd H10 z2 (.lst [.ref tq]) z2 = some (.lst [.ref tq]) := upd_same
        generalize upd H10 z2 (.lst [.ref tq]) = H11 at w2 hz2 ⊢
        have w12 := w1.trans w2
        refine ⟨_, rfl, _, rfl, bl, _, _, _, rfl, rfl, SqL.of (w12 _ _ hbl9), ab9, b9, _, rfl, .inl (SqL.of (w12 _ _ hb9)), _, rfl, (by omega), (by rw [List.length_map]; omega), fun D gD => ?_⟩
        rw [List.length_map]
        refine comp_by rs.length (fun j σ H12 => ∃ (v0 : Option V) (us : List V), σ = [v0, some (.ref nl), some (.int (0 + (i : Int)))] ∧ Same H11 H12 ∧ H12 D = some (.lst us) ∧ us.length = j) ⟨_, [], rfl, (Same.refl H11).new gD, upd_same, rfl⟩ ?_ ?_
        · rintro j σ H12 hj ⟨v0, us, rfl, s12, hD12, hul⟩
          refine ⟨by show j < _; omega, ?_⟩
          rintro x H13 ⟨rfl, rfl⟩
          refine ntG ?_
          refine ⟨_, rfl, _, rfl, nl, _, _, _, rfl, rfl, SqL.of (s12 _ _ (w12 _ _ hnl9)), an, _, rfl, (by show 2 ≤ sizeLine; decide), fun ti gti => ?_⟩
          exact ⟨us, upd_keep hD12 gti, small1000 (by omega), _, _, rfl, (s12.new gti).put gD, upd_same, by rw [List.length_append, hul]; rfl⟩
        · rintro σ H12 ⟨v0, us, rfl, s12, hD12, hul⟩
          refine ⟨by show _ ≤ _; omega, ?_⟩
          refine ⟨z2, D, _, _, rfl, rfl, s12 _ _ hz2, hD12, (by show 1 + _ ≤ sizeLine; omega), fun p2 gp2 => ?_⟩
          have w3 : Same H12 (upd H12 p2 (.lst ([.ref tq] ++ us))) := (Same.refl H12).new gp2
          have hp2 : upd H12 p2 (.lst ([.ref tq] ++ us)) p2 = some (.lst ([.ref tq] ++ us)) := upd_same
          generalize upd H12 p2 (.lst ([.ref tq] ++ us)) = H13 at w3 hp2 ⊢
          have w13 := (w12.trans s12).trans w3
          have hl2 : ([V.ref tq] ++ us).length = 1 + rs.length := by rw [List.length_append, hul]; rfl
          refine ⟨ob', p2, _, _, rfl, rfl, w13 _ _ hovs, hp2, (by rw [hl2]; omega), ?_⟩
          exact ⟨_, _, rfl, (g9.up w13).putO aq (jo' := 41 * (i + 1)) hob' (w13 _ _ hovs) (by omega) (by rw [List.length_append, hl2]; omega), p9⟩
      · rintro σ H5 ⟨pk, v4', rfl, g5, p5⟩
        have s5 := s2.trans g5.sm
        have hL5 := g5.sm _ _ hL
        refine ⟨(by show 0 ≤ sizeLine; decide), fun Ld gLd => ?_⟩
        have t1 : Same H5 (upd H5 Ld (.lst [])) := (Same.refl H5).new gLd
        have hLd1 : upd H5 Ld (.lst []) Ld = some (.lst []) := upd_same
        generalize upd H5 Ld (.lst []) = H6 at t1 hLd1 ⊢
        have s6 := s5.trans t1
        refine ⟨_, rfl, _, rfl, _, rfl, nl, bl, c, ns, bs, rfl, s6 _ _ hnl, hbk.same s6, hnd, hn1, hn12, fun rl R H7 t2 grl hrl hRN hR25 => ?_⟩
        have hLd7 := t2 _ _ hLd1
        have t17 := t1.trans t2
        have hrLd : rl ≠ Ld := fun z => by rw [z, hLd1] at grl; cases grl
        refine ⟨rl, rfl, ⟨_, SqL.of hrl⟩, ?_⟩
        refine for_list (K := K) (a := rl) (xs := R.map V.str) (fun j σ H8 => ∃ (us : List V) (lds : List (Str × List Int)) (v8 v9 v10 : Option V), σ = [some (.ref nl), some (.ref bl), some (.int c), some (.ref L), v4', some (.ref Pa), some (.ref Oa), some (.ref Ld), v8, v9, v10] ∧ But Ld H7 H8 ∧ H8 Ld = some (.lst us) ∧ Paired (LdAt H8) us lds ∧ lds.length = j ∧ ∀ q ∈ lds, q.1 ∈ ns ∧ q.2.length ≤ 12) ⟨[], [], _, _, _, rfl, fun _ _ _ h => h, hLd7, .nil, rfl, by simp⟩ (fun j σ H8 _ ⟨_, _, _, _, _, _, B8, _⟩ => SqL.of (B8 _ _ hrLd hrl)) ?_ ?_
        · rintro j x σ H8 hx ⟨us, lds, v8, v9, v10, rfl, B8, hLd8, hus, hll8, hln8⟩
          rw [List.getElem?_map] at hx
          obtain ⟨rt, hrt, rfl⟩ := Option.map_eq_some_iff.mp hx
          have hj : j < R.length := (List.getElem?_eq_some_iff.mp hrt).1
          have t58 : Same H5 H8 := fun a o h => B8 a o (fun z => by rw [z, gLd] at h; cases h) (t17 a o h)
          have s8 := s5.trans t58
          refine ⟨_, rfl, _, rfl, _, rfl, (by show 1 ≤ sizeLine; decide), fun wt gwt => ?_⟩
          have u1 : Same H8 (upd H8 wt (.tup [.str "do"])) := (Same.refl H8).new gwt
          refine ⟨nl, bl, wt, rt, ns, ["do"], bs, rfl, u1 _ _ (s8 _ _ hnl), hbk.same (s8.trans u1), hnd, hn12, hRN _ (List.mem_of_getElem? hrt), upd_same, fun w hw => .inl (List.mem_singleton.mp hw), fun l' L' H9 u2 _ hl' hnd' hN' _ => ?_⟩
          have u12 := u1.trans u2
          have hL'12 := nodup_lenG L' _ hnd' hN'
          have s9 := s8.trans u12
          have hL9 := u12 _ _ (t58 _ _ hL5)
          refine ⟨_, rfl, l', rfl, ⟨_, SqL.of hl'⟩, fun D gD => ?_⟩
          refine comp_lst (K := K) (a := l') (xs := L'.map V.str) (fun i σ H10 => ∃ (v0 : Option V) (zs : List Int), σ = [v0, some (.ref L), some (.ref nl)] ∧ Same H9 H10 ∧ H10 D = some (.lst (zs.map V.int)) ∧ zs.length = i) ⟨_, [], rfl, (Same.refl H9).new gD, upd_same, rfl⟩ (fun i σ H10 ⟨_, _, _, s10, _⟩ => SqL.of (s10 _ _ hl')) ?_ ?_
          · rintro i x σ H10 hx ⟨v0, zs, rfl, s10, hD10, hzl⟩
            rw [List.getElem?_map] at hx
            obtain ⟨y, hy, rfl⟩ := Option.map_eq_some_iff.mp hx
            have hi : i < L'.length := (List.getElem?_eq_some_iff.mp hy).1
            obtain ⟨jn, hjn⟩ := List.getElem?_of_mem (hN' y (List.mem_of_getElem? hy))
            have hjl : jn < ns.length := (List.getElem?_eq_some_iff.mp hjn).1
            have hls : ls[jn]? = some ls[jn] := List.getElem?_eq_getElem (by omega)
            refine ntG ?_
            refine ⟨_, rfl, _, rfl, .inl ⟨rfl, _, SqL.of (s10 _ _ (s9 _ _ hnl))⟩, _, rfl, nl, ns, y, jn, rfl, rfl, SqL.of (s10 _ _ (s9 _ _ hnl)), hjn, first_at hnd hjn, L, _, _, _, rfl, rfl, SqL.of (s10 _ _ hL9), atI_nat (by rw [List.getElem?_map, hls]; rfl), ?_⟩
            exact ⟨_, hD10, small1000 (by rw [List.length_map]; omega), _, zs ++ [ls[jn]], rfl, s10.put gD, by rw [upd_same, List.map_append]; rfl, by rw [List.length_append, hzl]; rfl⟩
          · rintro σ H10 ⟨v0, zs, rfl, s10, hD10, hzl⟩
            rw [List.length_map] at hzl
            obtain ⟨ms, hpm, hso⟩ := sorted_int zs
            have hml := hpm.length_eq
            refine ⟨D, zs, ms, rfl, SqL.of hD10, by omega, hpm, hso, fun lm glm => ?_⟩
            have u3 : Same H10 (upd H10 lm (.lst (ms.map V.int))) := (Same.refl H10).new glm
            have hlm : upd H10 lm (.lst (ms.map V.int)) lm = some (.lst (ms.map V.int)) := upd_same
            generalize upd H10 lm (.lst (ms.map V.int)) = H11 at u3 hlm ⊢
            have u13 := (u12.trans s10).trans u3
            have hP11 := u13 _ _ (t58 _ _ g5.hP)
            refine ⟨_, rfl, .inl ⟨rfl, _, SqL.of (u13 _ _ hLd8)⟩, _, rfl, _, rfl, Pa, _, rfl, .inl (SqL.of hP11), _, rfl, (by omega), (by rw [List.length_map]; omega), fun D2 gD2 => ?_⟩
            rw [List.length_map]
            refine comp_by pa.length (fun i σ H12 => ∃ (v0 : Option V) (xs : List Int), σ = [v0, some (.ref lm)] ∧ Same H11 H12 ∧ H12 D2 = some (.lst (xs.map V.int)) ∧ xs.length ≤ i) ⟨_, [], rfl, (Same.refl H11).new gD2, upd_same, Nat.le_refl _⟩ ?_ ?_
            · rintro i σ H12 hi ⟨v0', xs, rfl, s12, hD12, hxl⟩
              refine ⟨by show i < _; omega, ?_⟩
              rintro x H13 ⟨rfl, rfl⟩
              refine ⟨_, rfl, _, rfl, lm, _, rfl, .inl (SqL.of (s12 _ _ hlm)), rfl, ints_flat _, _, rfl, ite2 (fun _ => ?_) (fun _ => ?_)⟩
              · exact ⟨_, rfl, _, hD12, small1000 (by rw [List.length_map]; omega), _, xs ++ [0 + (i : Int)], rfl, s12.put gD2, by rw [upd_same, List.map_append]; rfl, by rw [List.length_append]; simp; omega⟩
              · exact ⟨_, xs, rfl, s12, hD12, by omega⟩
            · rintro σ H12 ⟨v0', xs, rfl, s12, hD12, hxl⟩
              refine ⟨by show _ ≤ _; omega, ?_⟩
              refine ⟨D2, _, rfl, .inl ⟨SqL.of hD12, fun tx gtx => ⟨by show 2 ≤ sizeLine; decide, fun tp gtp => ?_⟩⟩⟩
              have u4 : Same H12 (upd (upd H12 tx (.tup (xs.map V.int))) tp (.tup [.str rt, .ref tx])) := ((Same.refl H12).new gtx).new gtp
              have htx : upd (upd H12 tx (.tup (xs.map V.int))) tp (.tup [.str rt, .ref tx]) tx = some (.tup (xs.map V.int)) := upd_keep upd_same gtp
              have htp : upd (upd H12 tx (.tup (xs.map V.int))) tp (.tup [.str rt, .ref tx]) tp = some (.tup [.str rt, .ref tx]) := upd_same
              generalize upd (upd H12 tx (.tup (xs.map V.int))) tp (.tup [.str rt, .ref tx]) = H13 at u4 htx htp ⊢
              have u14 := (u13.trans s12).trans u4
              have hLd13 := u14 _ _ hLd8
              have hul := Paired.length hus
              have T14 := Tups.lst (ys := us ++ [.ref tp]) hLd13
              refine ⟨Ld, _, _, rfl, rfl, hLd13, small1000 (by omega), us ++ [.ref tp], lds ++ [(rt, xs)], _, _, _, rfl, (fun a o ha h => by rw [upd_ne ha]; exact u14 _ _ (B8 a o ha h)), upd_same, Paired.snoc (Paired.mapP hus fun _ _ z => z.mono (u14.tups.trans T14)) ⟨tp, tx, rfl, T14 _ _ htp, T14 _ _ htx⟩, by rw [List.length_append, hll8]; rfl, fun q hq => ?_⟩
              rcases List.mem_append.mp hq with z | z
              · exact hln8 q z
              · rw [List.mem_singleton.mp z]
                exact ⟨hRN _ (List.mem_of_getElem? hrt), by show xs.length ≤ 12; omega⟩
        · rintro σ H8 ⟨us, lds, v8, v9, v10, rfl, B8, hLd8, hus, hll8, hln8⟩
          rw [List.length_map] at hll8
          have t58 : Same H5 H8 := fun a o h => B8 a o (fun z => by rw [z, gLd] at h; cases h) (t17 a o h)
          have g8 := g5.up t58
          refine ⟨_, rfl, Pa, rfl, ⟨_, SqL.of g8.hP⟩, fun D gD => ?_⟩
          refine comp_lst (K := K) (a := Pa) (xs := pa.map V.ref) (fun i σ H9 => ∃ (v0 : Option V) (ps : List V), σ = [v0] ∧ Same H8 H9 ∧ H9 D = some (.lst ps) ∧ Paired (PkAt ns H9) ps (pk.take i)) ⟨_, [], rfl, (Same.refl H8).new gD, upd_same, .nil⟩ (fun i σ H9 ⟨_, _, _, s9, _⟩ => SqL.of (s9 _ _ g8.hP)) ?_ ?_
          · rintro i x σ H9 hx ⟨v0, ps, rfl, s9, hD9, hps⟩
            rw [List.getElem?_map] at hx
            obtain ⟨b, hb, rfl⟩ := Option.map_eq_some_iff.mp hx
            have hi : i < pa.length := (List.getElem?_eq_some_iff.mp hb).1
            obtain ⟨Pl, hpk⟩ : ∃ Pl, pk[i]? = some Pl := ⟨_, List.getElem?_eq_getElem (by rw [g5.ln]; exact hi)⟩
            obtain ⟨vs, hvs, hvp, _⟩ := g8.rw _ _ _ hb hpk
            refine ntG ?_
            refine ⟨_, rfl, b, _, rfl, .inl ⟨SqL.of (s9 _ _ hvs), fun t gt => ?_⟩⟩
            have hpl := Paired.length hps
            rw [List.length_take] at hpl
            have hD10 := upd_keep (o := .tup vs) hD9 gt
            have T10 := Tups.lst (ys := ps ++ [.ref t]) hD10
            have s10 := s9.new (o := .tup vs) gt
            have s9t : Same H9 (upd H9 t (.tup vs)) := (Same.refl H9).new gt
            refine ⟨_, hD10, small1000 (by omega), _, _, rfl, s10.put gD, upd_same, ?_⟩
            rw [take_succ_get hpk]
            exact Paired.snoc (Paired.mapP hps fun _ _ z => z.mono (s9t.tups.trans T10)) ⟨t, vs, rfl, T10 _ _ upd_same, Paired.mapP hvp fun _ _ z => z.mono (s10.tups.trans T10)⟩
          · rintro σ H9 ⟨v0, ps, rfl, s9, hD9, hps⟩
            rw [List.length_map, ← g5.ln, List.take_length] at hps
            refine ⟨D, _, rfl, .inl ⟨SqL.of hD9, fun pt gpt => ?_⟩⟩
            have x1 : Same H9 (upd H9 pt (.tup ps)) := (Same.refl H9).new gpt
            have hpt : upd H9 pt (.tup ps) pt = some (.tup ps) := upd_same
            generalize upd H9 pt (.tup ps) = H10 at x1 hpt ⊢
            have x12 := s9.trans x1
            have g10 := g8.up x12
            refine ⟨_, rfl, Oa, rfl, ⟨_, SqL.of g10.hO⟩, fun D2 gD2 => ?_⟩
            refine comp_lst (K := K) (a := Oa) (xs := oa.map V.ref) (fun i σ H11 => ∃ (v0 : Option V) (os : List V), σ = [v0] ∧ Same H10 H11 ∧ H11 D2 = some (.lst os) ∧ os.length = i) ⟨_, [], rfl, (Same.refl H10).new gD2, upd_same, rfl⟩ (fun i σ H11 ⟨_, _, _, s11, _⟩ => SqL.of (s11 _ _ g10.hO)) ?_ ?_
            · rintro i x σ H11 hx ⟨v0', os, rfl, s11, hD11, hol⟩
              rw [List.getElem?_map] at hx
              obtain ⟨b, hb, rfl⟩ := Option.map_eq_some_iff.mp hx
              have hi : i < oa.length := (List.getElem?_eq_some_iff.mp hb).1
              obtain ⟨vs, hvs, _⟩ := g10.ro _ (List.mem_of_getElem? hb)
              refine ntG ?_
              refine ⟨_, rfl, b, _, rfl, .inl ⟨SqL.of (s11 _ _ hvs), fun t gt => ?_⟩⟩
              exact ⟨_, upd_keep hD11 gt, small1000 (by omega), _, _, rfl, (s11.new gt).put gD2, upd_same, by rw [List.length_append, hol]; rfl⟩
            · rintro σ H11 ⟨v0', os, rfl, s11, hD11, hol⟩
              refine ⟨D2, _, rfl, .inl ⟨SqL.of hD11, fun ot got => ?_⟩⟩
              have x2 : Same H11 (upd H11 ot (.tup os)) := (Same.refl H11).new got
              generalize upd H11 ot (.tup os) = H12 at x2 ⊢
              have x13 := (x12.trans s11).trans x2
              refine ⟨_, rfl, Ld, _, rfl, SqL.of (x13 _ _ hLd8), fun lt ob glt hob => ?_⟩
              have x3 : Same H12 (upd H12 lt (.frz ob (.tup us))) := (Same.refl H12).new glt
              have hlt : upd H12 lt (.frz ob (.tup us)) lt = some (.frz ob (.tup us)) := upd_same
              generalize upd H12 lt (.frz ob (.tup us)) = H13 at x3 hlt ⊢
              refine ⟨(by show 3 ≤ sizeLine; decide), fun t gt => ?_⟩
              have x4 : Same H13 (upd H13 t (.tup [.ref pt, .ref ot, .ref lt])) := (Same.refl H13).new gt
              have x14 := (x13.trans x3).trans x4
              have xp := ((s11.trans x2).trans x3).trans x4
              refine q t pk lds _ ((s5.trans t58).trans x14) ⟨⟨pt, ot, lt, ps, us, ob, upd_same, xp _ _ hpt, Paired.mapP hps fun _ _ z => z.mono (x1.trans xp).tups, x4 _ _ hlt, hob, Paired.mapP hus fun _ _ z => z.mono x14.tups⟩, p5.ok (by obtain ⟨_, _, _, h, _⟩ := hbk; exact h), by rw [g5.ln]; omega, fun Pl hPl => ?_, ?_, by omega, hln8⟩
              case refine_2 => exact p5.tl (by obtain ⟨_, _, _, h, _⟩ := hbk; exact h) hn12 (by obtain ⟨_, _, _, _, h⟩ := hbk; exact h)
              obtain ⟨l, hl⟩ := List.getElem?_of_mem hPl
              obtain ⟨b, hb⟩ : ∃ b, pa[l]? = some b := ⟨_, List.getElem?_eq_getElem (by rw [← g5.ln]; exact (List.getElem?_eq_some_iff.mp hl).1)⟩
              obtain ⟨vs, _, hvp, hvl⟩ := g5.rw _ _ _ hb hl
              have := Paired.length hvp
              omega
noncomputable def TrAt (H : Hp) (v : V) (x : Str × Nat × Nat × Rk) : Prop := ∃ t, v = .ref t ∧ H t = some (.tup [.int (x.2.1 : Int), .int (x.2.2.1 : Int), .ref x.2.2.2.a])
theorem TrAt.mono {H H' : Hp} (s : Tups H H') {v : V} {x : Str × Nat × Nat × Rk} (h : TrAt H v x) : TrAt H' v x := by
  obtain ⟨t, h1, h2⟩ := h
  exact ⟨t, h1, s _ _ h2⟩
structure Bd (H0 : Hp) (d : Addr) (qs : List (Str × Addr)) (acc : List (Str × Nat × Nat × Rk)) (H : Hp) : Prop where
  sm : Same H0 H
  d0 : H0 d = none
  hd : H d = some (.dK (bkv qs))
  nd : (qs.map (·.1)).Nodup
  na : (qs.map (·.2)).Nodup
  fr : ∀ c ∈ qs.map (·.2), H0 c = none ∧ c ≠ d
  ls : ∀ n c, (n, c) ∈ qs → ∃ vs, H c = some (.lst vs) ∧ Paired (TrAt H) vs (acc.filter fun x => decide (x.1 = n))
  sub : ∀ x ∈ acc, x.1 ∈ qs.map (·.1)
theorem Bd.up {H0 : Hp} {d : Addr} {qs : List (Str × Addr)} {acc : List (Str × Nat × Nat × Rk)} {H H' : Hp} (b : Bd H0 d qs acc H) (s : Same H H') : Bd H0 d qs acc H' :=
  ⟨b.sm.trans s, b.d0, s _ _ b.hd, b.nd, b.na, b.fr, fun n c h => by
    obtain ⟨vs, h1, h2⟩ := b.ls n c h
    exact ⟨vs, s _ _ h1, Paired.mapP h2 fun _ _ z => z.mono s.tups⟩, b.sub⟩
theorem Bd.part {H0 : Hp} {d : Addr} {qs : List (Str × Addr)} {acc : List (Str × Nat × Nat × Rk)} {H : Hp} (b : Bd H0 d qs acc H) {n : Str} {c : Addr} (hn : n ∉ qs.map (·.1)) (hc : H c = none) : Bd H0 d (qs ++ [(n, c)]) acc (upd (upd H c (.lst [])) d (.dK (putK (bkv qs) (Sum.inr n) (.ref c)))) := by
  have hcd : c ≠ d := fun z => by rw [z, b.hd] at hc; cases hc
  have hk : (Sum.inr n : Key) ∉ (bkv qs).map (·.1) := fun z => by
    obtain ⟨q, hq, e⟩ := List.mem_map.mp z
    obtain ⟨q', hq', e'⟩ := List.mem_map.mp hq
    subst e'
    exact hn (List.mem_map.mpr ⟨q', hq', Sum.inr.inj e⟩)
  have hcq : c ∉ qs.map (·.2) := fun z => by
    obtain ⟨⟨n', c'⟩, hq, e⟩ := List.mem_map.mp z
    obtain ⟨vs, h1, _⟩ := b.ls n' c' hq
    cases (show c' = c from e)
    rw [hc] at h1; cases h1
  have keep : ∀ a o, a ≠ d → H a = some o → upd (upd H c (.lst [])) d (.dK (putK (bkv qs) (Sum.inr n) (.ref c))) a = some o := fun a o ha h => by
    rw [upd_ne ha]; exact upd_keep h hc
  have T : Tups H (upd (upd H c (.lst [])) d (.dK (putK (bkv qs) (Sum.inr n) (.ref c)))) := fun a xs h => keep a _ (fun z => by rw [z, b.hd] at h; cases h) h
  refine ⟨fun a o h => keep a o (fun z => by rw [z, b.d0] at h; cases h) (b.sm a o h), b.d0, by rw [upd_same, putK_fresh hk, bkv_snoc], ?_, ?_, fun c' hc' => ?_, fun n' c' h => ?_, fun x hx => ?_⟩
  · rw [List.map_append]
    refine List.nodup_append.mpr ⟨b.nd, by simp, fun a ha e he z => ?_⟩
    rw [List.mem_singleton.mp he] at z
    exact hn ((show a = n from z) ▸ ha)
  · rw [List.map_append]
    refine List.nodup_append.mpr ⟨b.na, by simp, fun a ha e he z => ?_⟩
    rw [List.mem_singleton.mp he] at z
    exact hcq ((show a = c from z) ▸ ha)
  · rw [List.map_append] at hc'
    rcases List.mem_append.mp hc' with z | z
    · exact b.fr c' z
    · rw [List.mem_singleton.mp z]; exact ⟨b.sm.free hc, hcd⟩
  · rcases List.mem_append.mp h with z | z
    · obtain ⟨vs, h1, h2⟩ := b.ls n' c' z
      exact ⟨vs, keep _ _ (b.fr c' (List.mem_map.mpr ⟨_, z, rfl⟩)).2 h1, Paired.mapP h2 fun _ _ y => y.mono T⟩
    · cases List.mem_singleton.mp z
      refine ⟨[], by rw [upd_ne hcd, upd_same], ?_⟩
      rw [List.filter_eq_nil_iff.mpr fun x hx e => hn (by have e' : x.1 = n := of_decide_eq_true e; rw [← e']; exact b.sub x hx)]
      exact .nil
  · rw [List.map_append]
    exact List.mem_append_left _ (b.sub x hx)
theorem Bd.row {H0 : Hp} {d : Addr} {qs : List (Str × Addr)} {acc : List (Str × Nat × Nat × Rk)} {H : Hp} (b : Bd H0 d qs acc H) {n : Str} {c t : Addr} (hq : (n, c) ∈ qs) {vs : List V} (hc : H c = some (.lst vs)) (hvs : Paired (TrAt H) vs (acc.filter fun x => decide (x.1 = n))) {x : Str × Nat × Nat × Rk} (hx : x.1 = n) (ht : TrAt H (.ref t) x) : Bd H0 d qs (acc ++ [x]) (upd H c (.lst (vs ++ [.ref t]))) := by
  obtain ⟨f0, fd⟩ := b.fr c (List.mem_map.mpr ⟨_, hq, rfl⟩)
  have T := Tups.lst (ys := vs ++ [.ref t]) hc
  refine ⟨b.sm.put f0, b.d0, by rw [upd_ne fd.symm]; exact b.hd, b.nd, b.na, b.fr, fun n' c' h => ?_, fun y hy => ?_⟩
  · by_cases e : c' = c
    · subst e
      have en : n' = n := by
        obtain ⟨i, hi⟩ := List.getElem?_of_mem h
        obtain ⟨j, hj⟩ := List.getElem?_of_mem hq
        have : i = j := (List.getElem?_inj (l := qs.map (·.2)) (by rw [List.length_map]; exact (List.getElem?_eq_some_iff.mp hi).1) b.na).mp (by rw [List.getElem?_map, List.getElem?_map, hi, hj]; rfl)
        subst this
        rw [hi] at hj
        exact congrArg Prod.fst (Option.some.inj hj)
      subst en
      refine ⟨_, upd_same, ?_⟩
      rw [List.filter_append, List.filter_cons_of_pos (p := fun y : Str × Nat × Nat × Rk => decide (y.1 = n')) (decide_eq_true hx)]
      exact Paired.snoc (Paired.mapP hvs fun _ _ z => z.mono T) (ht.mono T)
    · obtain ⟨vs', h1, h2⟩ := b.ls n' c' h
      refine ⟨vs', by rw [upd_ne e]; exact h1, ?_⟩
      have hne : ¬ x.1 = n' := fun z => e (by
        have e1 := bkv_val b.nd h
        have e2 := bkv_val b.nd hq
        rw [← z, hx, e2] at e1
        exact (V.ref.inj (Option.some.inj e1)).symm)
      rw [List.filter_append, List.filter_cons_of_neg (by simpa using hne), List.filter_nil, List.append_nil]
      exact Paired.mapP h2 fun _ _ z => z.mono T
  · rcases List.mem_append.mp hy with z | z
    · exact b.sub y z
    · rw [List.mem_singleton.mp z, hx]
      exact List.mem_map.mpr ⟨_, hq, rfl⟩
theorem pts_new {pk : List (List Ro)} {i j : Nat} {P : List Ro} {n : Str} (hnd : (pk.flatMap ptsOf).Nodup) (hi : pk[i]? = some P) (hj : P[j]? = some (.part n)) : n ∉ (pk.take i).flatMap ptsOf ++ ptsOf (P.take j) := by
  have li : i < pk.length := (List.getElem?_eq_some_iff.mp hi).1
  have lj : j < P.length := (List.getElem?_eq_some_iff.mp hj).1
  have e1 : pk = pk.take i ++ P :: pk.drop (i + 1) := by
    have := (List.getElem?_eq_some_iff.mp hi).2
    rw [← this]
    rw [List.getElem_cons_drop, List.take_append_drop]
  have e2 : P = P.take j ++ .part n :: P.drop (j + 1) := by
    have := (List.getElem?_eq_some_iff.mp hj).2
    rw [← this]
    rw [List.getElem_cons_drop, List.take_append_drop]
  have e3 : ptsOf P = ptsOf (P.take j) ++ n :: ptsOf (P.drop (j + 1)) := by
    have := congrArg ptsOf e2
    rw [ptsOf_append] at this
    exact this
  have e : pk.flatMap ptsOf = ((pk.take i).flatMap ptsOf ++ ptsOf (P.take j)) ++ n :: (ptsOf (P.drop (j + 1)) ++ (pk.drop (i + 1)).flatMap ptsOf) := by
    have := congrArg (List.flatMap ptsOf) e1
    rw [List.flatMap_append, List.flatMap_cons, e3] at this
    rw [this]
    simp
  rw [e, List.nodup_append] at hnd
  intro z
  exact hnd.2.2 n z n List.mem_cons_self rfl
theorem pts_le {pk : List (List Ro)} {i j : Nat} {P : List Ro} (hi : pk[i]? = some P) : ((pk.take i).flatMap ptsOf ++ ptsOf (P.take j)).length ≤ (pk.flatMap ptsOf).length := by
  have e1 : pk = pk.take i ++ P :: pk.drop (i + 1) := by
    have := (List.getElem?_eq_some_iff.mp hi).2
    rw [← this]
    rw [List.getElem_cons_drop, List.take_append_drop]
  have h2 : (ptsOf (P.take j)).length ≤ (ptsOf P).length := ((List.take_sublist j P).filterMap _).length_le
  have h3 := congrArg (fun l => (List.flatMap ptsOf l).length) e1
  simp only [List.flatMap_append, List.flatMap_cons, List.length_append] at h3
  rw [List.length_append]
  omega
theorem tag_len : ∀ (P : List Ro) (c : Str) (i : Nat), (tag c i P).length ≤ P.length
  | [], _, _ => Nat.le_refl _
  | .part n :: t, _, i => Nat.le_succ_of_le (tag_len t n (i + 1))
  | .row r :: t, c, i => Nat.succ_le_succ (tag_len t c (i + 1))
theorem tags_len : ∀ (A : List (List Ro)) (j : Nat), (∀ P ∈ A, P.length ≤ 500) → (tags j A).length ≤ 500 * A.length
  | [], _, _ => Nat.le_refl _
  | P :: t, j, h => by
    have h1 := tags_len t (j + 1) fun Q hQ => h Q (List.mem_cons_of_mem _ hQ)
    have h2 := tag_len P "" 0
    have h3 := h P List.mem_cons_self
    simp only [tags, List.length_append, List.length_map, List.length_cons]
    omega
noncomputable def spBlocksIn : Sp := fun vs H Q _ => ∃ (p : Addr) (us : List V) (ns : List Str) (pk : List (List Ro)), vs = [.ref p] ∧ H p = some (.tup us) ∧ Paired (PkAt ns H) us pk ∧ (∀ P ∈ pk, P = [] ∨ ∃ n t, P = .part n :: t) ∧ (pk.flatMap ptsOf).Nodup ∧ pk.length ≤ 12 ∧ (∀ P ∈ pk, P.length ≤ 500) ∧ (pk.flatMap ptsOf).length ≤ 12 ∧
  ∀ (d : Addr) (qs : List (Str × Addr)) (H' : Hp), Bd H d qs (tags 0 pk) H' → qs.map (·.1) = pk.flatMap ptsOf → Q (.ref d) H'
theorem ok_blocks_in (T : Txt K mg) : L2.Cl P w K mg base 1 "blocks_in" ["packs"] spBlocksIn := by
  refine Cl.of T.d_blocks_in sc_blocks_in (fun vs H Q E h => ?_) (fun _ _ _ _ _ _ us hl => by obtain ⟨a, rfl⟩ := len1 hl; rfl) (fun f cdv A outer s H vs Q E hr h => ?_)
  · obtain ⟨p, us, ns, pk, rfl, _⟩ := h
    rfl
  · obtain ⟨p, us, ns, pk, rfl, hp, hus, hhd, hnd, hpl, hrl, hpt, q⟩ := h
    have hu := hu_of hr
    have hsz : sizeLine = 16777216 := sizeLine_eq
    refine ⟨_, (@pss_cons _ _ _ _ _ (@ps_set _ _ (1) _ _ _ _ sc_blocks_in.nd rfl (Or.inl rfl) (@pe_dnewK _ _) (by rfl) (by first   | exact .inl rfl   | exact .inr rfl   | assumption)) (@pss_cons _ _ _ _ _ (@ps_for _ _ _ _ _ _ _ _ PassesOwn.never rfl (@pi_enumT _ _ _ _ _ _ _ _ (by rfl) T.n_enumerate (@pa_cons _ _ _ _ _ (@pv _ 0 _ _ (by rfl) (by first   | exact Or.inl rfl   | exact Or.inr (Or.inl rfl)   | exact Or.inr (Or.inr rfl)) (by decide) (by decide)) (@pa_nil _) (by rfl)) (by rfl)) (@pg_tup _ _ _ _ _ _ rfl (@pgs_cons _ _ _ _ _ (@pg_name _ _ (2) _ sc_blocks_in.nd rfl (Or.inl rfl) (by first   | exact .inl rfl   | exact .inr rfl   | assumption)) (@pgs_cons _ _ _ _ _ (@pg_name _ _ (3) _ sc_blocks_in.nd rfl (Or.inl rfl) (by first   | exact .inl rfl   | exact .inr rfl   | assumption)) (@pgs_nil _) (by rfl)) (by rfl)) (by rfl) (by rfl)) (@pss_cons _ _ _ _ _ (@ps_set _ _ (4) _ _ _ _ sc_blocks_in.nd rfl (Or.inl rfl) (@pe_non _ _ _) (by rfl) (by first   | exact .inl rfl   | exact .inr rfl   | assumption)) (@pss_one _ _ _ (@ps_for _ _ _ _ _ _ _ _ PassesOwn.never rfl (@pi_enumT _ _ _ _ _ _ _ _ (by rfl) T.n_enumerate (@pa_cons _ _ _ _ _ (@pv _ 3 _ _ (by rfl) (by first   | exact Or.inl rfl   | exact Or.inr (Or.inl rfl)   | exact Or.inr (Or.inr rfl)) (by decide) (by decide)) (@pa_nil _) (by rfl)) (by rfl)) (@pg_tup _ _ _ _ _ _ rfl (@pgs_cons _ _ _ _ _ (@pg_name _ _ (5) _ sc_blocks_in.nd rfl (Or.inl rfl) (by first   | exact .inl rfl   | exact .inr rfl   | assumption)) (@pgs_cons _ _ _ _ _ (@pg_name _ _ (6) _ sc_blocks_in.nd rfl (Or.inl rfl) (by first   | exact .inl rfl   | exact .inr rfl   | assumption)) (@pgs_nil _) (by rfl)) (by rfl)) (by rfl) (by rfl)) (@pss_one _ _ _ (@ps_if _ _ _ _ _ _ _ _ (@pt_cmpR _ _ _ _ _ _ _ _ (@op_eq _) (@pe_ix _ _ _ _ _ _ _ (@ix_tup _) (@pv _ 6 _ _ (by rfl) (by first   | exact Or.inl rfl   | exact Or.inr (Or.inl rfl)   | exact Or.inr (Or.inr rfl)) (by decide) (by decide)) (@pe_int _ _ _ _) (fun _ _ => rfl)) (@pe_str _ _ _ _) (nomark _)) (@pss_cons _ _ _ _ _ (@ps_set _ _ (4) _ _ _ _ sc_blocks_in.nd rfl (Or.inl rfl) (@pe_ix _ _ _ _ _ _ _ (@ix_tup _) (@pv _ 6 _ _ (by rfl) (by first   | exact Or.inl rfl   | exact Or.inr (Or.inl rfl)   | exact Or.inr (Or.inr rfl)) (by decide) (by decide)) (@pe_int _ _ _ _) (fun _ _ => rfl)) (by rfl) (by first   | exact .inl rfl   | exact .inr rfl   | assumption)) (@pss_one _ _ _ (@ps_dput _ _ _ _ _ _ _ _ _ hu (@pv _ 1 _ _ (by rfl) (by first   | exact Or.inl rfl   | exact Or.inr (Or.inl rfl)   | exact Or.inr (Or.inr rfl)) (by decide) (by decide)) (@pv _ 4 _ _ (by rfl) (by first   | exact Or.inl rfl   | exact Or.inr (Or.inl rfl)   | exact Or.inr (Or.inr rfl)) (by decide) (by decide)) (@pe_lst _ _ _ _ (@pa_nil _)) rfl))) (@pss_one _ _ _ (@ps_expr _ _ _ _ (@pe_bm _ _ _ _ _ _ _ _ _ _ _ _ PySem.F.plainAttrs_list PySem.F.slot_list_append PySem.F.type_list_append (@mt_append _) (@pe_dget _ _ _ _ _ _ hu (@pv _ 1 _ _ (by rfl) (by first   | exact Or.inl rfl   | exact Or.inr (Or.inl rfl)   | exact Or.inr (Or.inr rfl)) (by decide) (by decide)) (@pv _ 4 _ _ (by rfl) (by first   | exact Or.inl rfl   | exact Or.inr (Or.inl rfl)   | exact Or.inr (Or.inr rfl)) (by decide) (by decide)) (fun _ _ => rfl)) (@pa_cons _ _ _ _ _ (@pe_tup _ _ _ _ _ (@pa_cons _ _ _ _ _ (@pv _ 2 _ _ (by rfl) (by first   | exact Or.inl rfl   | exact Or.inr (Or.inl rfl)   | exact Or.inr (Or.inr rfl)) (by decide) (by decide)) (@pa_cons _ _ _ _ _ (@pv _ 5 _ _ (by rfl) (by first   | exact Or.inl rfl   | exact Or.inr (Or.inl rfl)   | exact Or.inr (Or.inr rfl)) (by decide) (by decide)) (@pa_cons _ _ _ _ _ (@pv _ 6 _ _ (by rfl) (by first   | exact Or.inl rfl   | exact Or.inr (Or.inl rfl)   | exact Or.inr (Or.inr rfl)) (by decide) (by decide)) (@pa_nil _) (by rfl)) (by rfl)) (by rfl))) (@pa_nil _) (by rfl)) (by rfl) (by rfl) (by rfl) (by rfl) (by rfl)) (by rfl))))) (by intro _; rfl)))) (by intro _; rfl)) (@pss_one _ _ _ (@ps_ret _ _ _ _ (@pv _ 1 _ _ (by rfl) (by first   | exact Or.inl rfl   | exact Or.inr (Or.inl rfl)   | exact Or.inr (Or.inr rfl)) (by decide) (by decide)))))), ?_⟩
    intro d gd
    have b0 : Bd H d [] [] (upd H d (.dK [])) := ⟨(Same.refl H).new gd, gd, upd_same, by simp, by simp, by simp, by simp, by simp⟩
    refine ⟨_, rfl, p, rfl, ⟨_, SqT.of (b0.sm _ _ hp)⟩, ?_⟩
    refine for_enum (K := K) (a := p) (xs := us) (fun i σ H2 => ∃ (qs : List (Str × Addr)) (v2 v3 v4 v5 v6 : Option V), σ = [some (.ref p), some (.ref d), v2, v3, v4, v5, v6] ∧ Bd H d qs (tags 0 (pk.take i)) H2 ∧ qs.map (·.1) = (pk.take i).flatMap ptsOf) ⟨[], none, none, none, none, none, rfl, b0, rfl⟩ (fun i σ H2 _ ⟨_, _, _, _, _, _, _, b, _⟩ => SqT.of (b.sm _ _ hp)) ?_ ?_
    · rintro i x pp σ H2 hx ⟨qs, v2, v3, v4, v5, v6, rfl, b2, hq2⟩ hpp
      obtain ⟨P, hP, u, vs, rfl, hu0, hvs0⟩ := Paired.get? hus hx
      have s3 : Same H2 (upd H2 pp (.tup [.int (i : Int), .ref u])) := (Same.refl H2).new hpp
      have b3 := b2.up s3
      refine ⟨pp, _, rfl, SqT.of upd_same, rfl, _, _, rfl, _, _, rfl, rfl, ?_⟩
      generalize upd H2 pp (.tup [.int (i : Int), .ref u]) = H3 at s3 b3 ⊢
      have hPm := List.mem_of_getElem? hP
      have hPl := hrl P hPm
      refine ⟨_, rfl, u, rfl, ⟨_, SqT.of (b3.sm _ _ hu0)⟩, ?_⟩
      refine for_enum (K := K) (a := u) (xs := vs) (fun j σ H4 => ∃ (qs : List (Str × Addr)) (v4 v5 v6 : Option V), σ = [some (.ref p), some (.ref d), some (.int (i : Int)), some (.ref u), v4, v5, v6] ∧ Bd H d qs (tags 0 (pk.take i) ++ (tag "" 0 (P.take j)).map fun x => (x.1, i, x.2.1, x.2.2)) H4 ∧ qs.map (·.1) = (pk.take i).flatMap ptsOf ++ ptsOf (P.take j) ∧ (j = 0 ∨ (v4 = some (.str (cur "" (P.take j))) ∧ cur "" (P.take j) ∈ qs.map (·.1)))) ⟨qs, _, _, _, rfl, by simpa [tag] using b3, by rw [hq2]; simp [ptsOf], .inl rfl⟩ (fun j σ H4 _ ⟨_, _, _, _, _, b, _⟩ => SqT.of (b.sm _ _ hu0)) ?_ ?_
      · rintro j y pp2 σ H4 hy ⟨qs4, w4, w5, w6, rfl, b4, hq4, hc4⟩ hpp2
        obtain ⟨o, ho, hro0⟩ := Paired.get? hvs0 hy
        have s5 : Same H4 (upd H4 pp2 (.tup [.int (j : Int), y])) := (Same.refl H4).new hpp2
        have b5 := b4.up s5
        refine ⟨pp2, _, rfl, SqT.of upd_same, rfl, _, _, rfl, _, _, rfl, rfl, ?_⟩
        generalize upd H4 pp2 (.tup [.int (j : Int), y]) = H5 at s5 b5 ⊢
        have hro := hro0.mono b5.sm.tups
        have etk := take_succ_get ho
        have hjP : j < P.length := (List.getElem?_eq_some_iff.mp ho).1
        have hqle : qs4.length ≤ 12 := by
          have e1 := congrArg List.length hq4
          rw [List.length_map] at e1
          have := pts_le (j := j) hP
          omega
        cases o with
        | part n =>
          obtain ⟨a, rfl, ha⟩ := hro
          have z0 : atI [V.str "part", V.str n] 0 = some (.str "part") := atI_nat (j := 0) rfl
          have z1 : atI [V.str "part", V.str n] 1 = some (.str n) := atI_nat (j := 1) rfl
          refine ⟨_, rfl, a, _, _, _, rfl, rfl, SqT.of ha, z0, rfl, _, rfl, iteSE ?_⟩
          refine ⟨_, rfl, a, _, _, _, rfl, rfl, SqT.of ha, z1, ?_⟩
          refine ⟨(by show 0 ≤ sizeLine; decide), fun c gc => ?_⟩
          have hnn : n ∉ qs4.map (·.1) := by rw [hq4]; exact pts_new hnd hP ho
          have b6 := b5.part (n := n) (c := c) hnn gc
          have hd6 : upd H5 c (.lst []) d = some (.dK (bkv qs4)) := upd_keep b5.hd gc
          refine ⟨_, rfl, _, rfl, d, _, rfl, DPut.k (k := Sum.inr n) hd6 (by unfold bkv; rw [List.length_map]; omega), ?_⟩
          have ec : cur "" (P.take (j + 1)) = n := by rw [etk, cur_append]; rfl
          have et : tag "" 0 (P.take (j + 1)) = tag "" 0 (P.take j) := by rw [etk, tag_append]; simp [tag]
          have ep : ptsOf (P.take (j + 1)) = ptsOf (P.take j) ++ [n] := by rw [etk, ptsOf_append]; rfl
          refine ⟨qs4 ++ [(n, c)], _, _, _, rfl, by rw [et]; exact b6, by rw [ep, List.map_append, hq4, List.append_assoc]; rfl, .inr ⟨by rw [ec], by rw [ec, List.map_append]; exact List.mem_append_right _ (List.mem_singleton.mpr rfl)⟩⟩
        | row r =>
          obtain ⟨rfl, y1, tl, hrt, hkp, hto⟩ := hro
          have z0 : atI (V.str r.k :: y1 :: tl) 0 = some (.str r.k) := atI_nat (j := 0) rfl
          have hj0 : j ≠ 0 := fun z => by
            subst z
            rcases hhd P hPm with e | ⟨n, t, e⟩
            · rw [e] at hjP; simp at hjP
            · rw [e] at ho; simp at ho
          rcases hc4 with z | ⟨rfl, hcm⟩
          · exact absurd z hj0
          have ec : cur "" (P.take (j + 1)) = cur "" (P.take j) := by rw [etk, cur_append]; rfl
          have et : tag "" 0 (P.take (j + 1)) = tag "" 0 (P.take j) ++ [(cur "" (P.take j), j, r)] := by
            rw [etk, tag_append]
            simp only [tag]
            rw [List.length_take, Nat.min_eq_left (by omega), Nat.zero_add]
          have ep : ptsOf (P.take (j + 1)) = ptsOf (P.take j) := by rw [etk, ptsOf_append]; simp [ptsOf]
          generalize cur "" (P.take j) = cn at hcm ec et
          obtain ⟨⟨n', c⟩, hqm, en⟩ := List.mem_map.mp hcm
          obtain rfl : n' = cn := en
          obtain ⟨ws, hc, hws⟩ := b5.ls _ _ hqm
          have hval := bkv_val b5.nd hqm
          refine ⟨_, rfl, r.a, _, _, _, rfl, rfl, SqT.of hrt, z0, rfl, _, rfl, iteSN hkp ?_⟩
          have hg := DGet.k (k := Sum.inr n') b5.hd
          rw [hval] at hg
          refine ⟨_, rfl, _, rfl, d, _, rfl, hg, .inl ⟨rfl, _, SqL.of hc⟩, _, rfl, _, rfl, _, rfl, (by show 3 ≤ sizeLine; decide), fun t gt => ?_⟩
          have s6 : Same H5 (upd H5 t (.tup [.int (i : Int), .int (j : Int), .ref r.a])) := (Same.refl H5).new gt
          have b6 := (b5.up s6).row (x := (n', i, j, r)) hqm (s6 _ _ hc) (Paired.mapP hws fun _ _ z => z.mono s6.tups) rfl ⟨t, rfl, upd_same⟩
          refine ⟨c, _, _, rfl, rfl, s6 _ _ hc, ?_, ?_⟩
          · have h1 := Paired.length hws
            have h2 := List.length_filter_le (fun x : Str × Nat × Nat × Rk => decide (x.1 = n')) (tags 0 (pk.take i) ++ (tag "" 0 (P.take j)).map fun x => (x.1, i, x.2.1, x.2.2))
            have h3 := tags_len (pk.take i) 0 fun Q hQ => hrl Q (List.mem_of_mem_take hQ)
            have h4 := tag_len (P.take j) "" 0
            rw [List.length_append, List.length_map] at h2
            rw [List.length_take] at h3 h4
            omega
          refine ⟨qs4, _, _, _, rfl, ?_, by rw [ep]; exact hq4, .inr ⟨by rw [ec], by rw [ec]; exact hcm⟩⟩
          rw [et, List.map_append, ← List.append_assoc]
          exact b6
      · rintro σ H4 ⟨qs4, w4, w5, w6, rfl, b4, hq4, hc4⟩
        have hvl : vs.length = P.length := Paired.length hvs0
        have li : i < pk.length := (List.getElem?_eq_some_iff.mp hP).1
        refine ⟨qs4, _, _, _, _, _, rfl, ?_, ?_⟩
        · rw [take_succ_get hP, tags_snoc, List.length_take, Nat.min_eq_left (by omega), Nat.zero_add]
          rw [hvl, List.take_length] at b4
          exact b4
        · rw [take_succ_get hP, List.flatMap_append, hq4, hvl, List.take_length]
          simp
    · rintro σ H2 ⟨qs, v2, v3, v4, v5, v6, rfl, b2, hq2⟩
      have hul : us.length = pk.length := Paired.length hus
      rw [hul, List.take_length] at b2 hq2
      exact ⟨_, rfl, q d qs H2 b2 hq2⟩
theorem bkv_keys (qs : List (Str × Addr)) : keysV (bkv qs) = (qs.map (·.1)).map V.str := by
  unfold bkv keysV
  rw [List.map_map, List.map_map]
  rfl
structure BdAt (ns : List Str) (H : Hp) (d : Addr) (qs : List (Str × Addr)) (acc : List (Str × Nat × Nat × Rk)) : Prop where
  hd : Rd H d (.dK (bkv qs))
  nd : (qs.map (·.1)).Nodup
  ql : qs.length ≤ 12
  al : acc.length ≤ 480
  ls : ∀ n c, (n, c) ∈ qs → c ≠ d ∧ ∃ vs, H c = some (.lst vs) ∧ Paired (TrAt H) vs (acc.filter fun x => decide (x.1 = n))
  rk : ∀ x ∈ acc, RkAt ns H x.2.2.2
theorem BdAt.but {ns : List Str} {H H' : Hp} {d : Addr} {qs : List (Str × Addr)} {acc : List (Str × Nat × Nat × Rk)} (b : BdAt ns H d qs acc) (s : But d H H') (hd : Rd H' d (.dK (bkv qs))) : BdAt ns H' d qs acc := by
  have T : Tups H H' := fun a xs h => s a _ (fun z => by
    rcases b.hd with e | ⟨o, e⟩
    · rw [z, e] at h; cases h
    · rw [z, e] at h; cases h) h
  refine ⟨hd, b.nd, b.ql, b.al, fun n c h => ?_, fun x hx => (b.rk x hx).mono T⟩
  obtain ⟨h1, vs, h2, h3⟩ := b.ls n c h
  exact ⟨h1, vs, s _ _ h1 h2, Paired.mapP h3 fun _ _ z => z.mono T⟩
theorem BdAt.same {ns : List Str} {H H' : Hp} {d : Addr} {qs : List (Str × Addr)} {acc : List (Str × Nat × Nat × Rk)} (b : BdAt ns H d qs acc) (s : Same H H') : BdAt ns H' d qs acc := b.but (fun a o _ h => s a o h) (Rd.same s b.hd)
noncomputable def spNextParts : Sp := fun vs H Q _ => ∃ (d : Addr) (ns : List Str) (qs : List (Str × Addr)) (acc : List (Str × Nat × Nat × Rk)), vs = [.ref d] ∧ BdAt ns H d qs acc ∧
  ∀ (e : Addr) (q2 : List (Str × Addr)) (H' : Hp), But d H H' → Rd H' d (.dK (bkv qs)) → e ≠ d → H' e = some (.dK (bkv q2)) → q2.map (·.1) = qs.map (·.1) → (∀ n c, (n, c) ∈ q2 → H' c = some (.lst ((gTo acc n).map V.str))) → Q (.ref e) H'
theorem ok_next_parts (T : Txt K mg) : L2.Cl P w K mg base 1 "next_parts" ["blocks"] spNextParts := by
  refine Cl.of T.d_next_parts sc_next_parts (fun vs H Q E h => ?_) (fun _ _ _ _ _ _ us hl => by obtain ⟨a, rfl⟩ := len1 hl; rfl) (fun f cdv A outer s H vs Q E hr h => ?_)
  · obtain ⟨d, ns, qs, acc, rfl, _⟩ := h
    rfl
  · obtain ⟨d, ns, qs, acc, rfl, bd, q⟩ := h
    have hu := hu_of hr
    have hsz : sizeLine = 16777216 := sizeLine_eq
    refine ⟨_, (@pss_cons _ _ _ _ _ (@ps_set _ _ (1) _ _ _ _ sc_next_parts.nd rfl (Or.inl rfl) (@pe_dnewK _ _) (by rfl) (by first   | exact .inl rfl   | exact .inr rfl   | assumption)) (@pss_cons _ _ _ _ _ (@ps_for _ _ _ _ _ _ _ _ PassesOwn.never rfl (@pi_dictR _ _ _ _ (@pv _ 0 _ _ (by rfl) (by first   | exact Or.inl rfl   | exact Or.inr (Or.inl rfl)   | exact Or.inr (Or.inr rfl)) (by decide) (by decide))) (@pg_name _ _ (2) _ sc_next_parts.nd rfl (Or.inl rfl) (by first   | exact .inl rfl   | exact .inr rfl   | assumption)) (@pss_one _ _ _ (@ps_dput _ _ _ _ _ _ _ _ _ hu (@pv _ 1 _ _ (by rfl) (by first   | exact Or.inl rfl   | exact Or.inr (Or.inl rfl)   | exact Or.inr (Or.inr rfl)) (by decide) (by decide)) (@pv _ 2 _ _ (by rfl) (by first   | exact Or.inl rfl   | exact Or.inr (Or.inl rfl)   | exact Or.inr (Or.inr rfl)) (by decide) (by decide)) (@pe_comp _ _ _ _ _ _ _ (["place", "number", "row"]) ([none, none, none]) _ _ _ _ (defScope s_next_parts) ["blocks", "onward", "part"] ⟨rfl, by decide +kernel, by decide +kernel, by decide +kernel, rfl, by decide +kernel, by decide +kernel⟩ (@pi_list _ _ _ _ (@pe_dget _ _ _ _ _ _ hu (@pv _ 0 _ _ (by rfl) (by first   | exact Or.inl rfl   | exact Or.inr (Or.inl rfl)   | exact Or.inr (Or.inr rfl)) (by decide) (by decide)) (@pv _ 2 _ _ (by rfl) (by first   | exact Or.inl rfl   | exact Or.inr (Or.inl rfl)   | exact Or.inr (Or.inr rfl)) (by decide) (by decide)) (fun _ _ => rfl))) (fun _ _ _ _ _ _ => (@pg_tupK _ (K) _ _ _ _ (3) rfl rfl (@pgs_cons _ _ _ _ _ (@pg_name _ _ (0) _ (show (["place", "number", "row"] : List Str).Nodup by decide +kernel) rfl (Or.inl rfl) (by first   | exact .inl rfl   | exact .inr rfl   | assumption)) (@pgs_cons _ _ _ _ _ (@pg_name _ _ (1) _ (show (["place", "number", "row"] : List Str).Nodup by decide +kernel) rfl (Or.inl rfl) (by first   | exact .inl rfl   | exact .inr rfl   | assumption)) (@pgs_cons _ _ _ _ _ (@pg_name _ _ (2) _ (show (["place", "number", "row"] : List Str).Nodup by decide +kernel) rfl (Or.inl rfl) (by first   | exact .inl rfl   | exact .inr rfl   | assumption)) (@pgs_nil _) (by rfl)) (by rfl)) (by rfl)) (by rfl) (by rfl))) (fun _ _ _ _ _ _ => (@pts_one _ _ _ (@pt_cmpR _ _ _ _ _ _ _ _ (@op_in_seqK _ (K) rfl) (@pe_ix _ _ _ _ _ _ _ (@ix_tupK _ (K) rfl) (@pv _ 2 _ _ (by rfl) (by first   | exact Or.inl rfl   | exact Or.inr (Or.inl rfl)   | exact Or.inr (Or.inr rfl)) (by decide) (by decide)) (@pe_int _ _ _ _) (fun _ _ => rfl)) (@pe_tup _ _ _ _ _ (@pa_cons _ _ _ _ _ (@pe_str _ _ _ _) (@pa_cons _ _ _ _ _ (@pe_str _ _ _ _) (@pa_nil _) (by rfl)) (by rfl))) (by with_unfolding_all rfl)))) (fun _ _ _ _ _ _ => (@pe_ix _ _ _ _ _ _ _ (@ix_tupK _ (K) rfl) (@pv _ 2 _ _ (by rfl) (by first   | exact Or.inl rfl   | exact Or.inr (Or.inl rfl)   | exact Or.inr (Or.inr rfl)) (by decide) (by decide)) (@pe_int _ _ _ _) (fun _ _ => rfl))) (by rfl) (by rfl) (by rfl) (by intro _; rfl)) rfl)) (by intro _; rfl)) (@pss_one _ _ _ (@ps_ret _ _ _ _ (@pv _ 1 _ _ (by rfl) (by first   | exact Or.inl rfl   | exact Or.inr (Or.inl rfl)   | exact Or.inr (Or.inr rfl)) (by decide) (by decide)))))), ?_⟩
    intro e ge
    have s1 : Same H (upd H e (.dK [])) := (Same.refl H).new ge
    have he1 : upd H e (.dK []) e = some (.dK (bkv [])) := upd_same
    have hed : e ≠ d := fun z => by
      rcases bd.hd with h | ⟨o, h⟩
      · rw [z, h] at ge; cases ge
      · rw [z, h] at ge; cases ge
    generalize upd H e (.dK []) = H1 at s1 he1 ⊢
    refine ⟨_, rfl, d, _, rfl, Rd.same s1 bd.hd, fun o Hf bf hdf hfree => ?_⟩
    have hef := bf _ _ hed he1
    have bdf : But d H Hf := fun a u ha h => bf a u ha (s1 a u h)
    rw [bkv_keys]
    refine for_dict (d := d) (o := o) (u := .dK (bkv qs)) (ks := (qs.map (·.1)).map V.str) (fun i σ H2 => ∃ (q2 : List (Str × Addr)) (v2 : Option V), σ = [some (.ref d), some (.ref e), v2] ∧ But d H H2 ∧ H2 d = some (.frz o (.dK (bkv qs))) ∧ H2 e = some (.dK (bkv q2)) ∧ q2.map (·.1) = (qs.map (·.1)).take i ∧ ∀ n c, (n, c) ∈ q2 → c ≠ e ∧ c ≠ d ∧ H2 c = some (.lst ((gTo acc n).map V.str))) ⟨[], none, rfl, bdf, hdf, hef, by simp, by simp⟩ (fun i σ H2 _ ⟨_, _, _, _, h, _⟩ => h) ?_ ?_
    · rintro i k σ H2 hk ⟨q2, v2, rfl, B2, hd2, he2, hq2, hl2⟩
      rw [List.getElem?_map] at hk
      obtain ⟨n, hn, rfl⟩ := Option.map_eq_some_iff.mp hk
      have hnm := List.mem_of_getElem? hn
      obtain ⟨⟨n', c⟩, hqm, en⟩ := List.mem_map.mp hnm
      obtain rfl : n' = n := en
      have bd2 := bd.but B2 (.inr ⟨o, hd2⟩)
      obtain ⟨hcd, vs, hc, hvs⟩ := bd2.ls _ _ hqm
      have hg := DGet.kr (k := Sum.inr n') bd2.hd
      rw [bkv_val bd2.nd hqm] at hg
      refine ⟨_, rfl, _, rfl, d, _, rfl, hg, c, rfl, ⟨_, SqL.of hc⟩, fun D gD => ?_⟩
      have hvl := Paired.length hvs
      have hfl := List.length_filter_le (fun x : Str × Nat × Nat × Rk => decide (x.1 = n')) acc
      have hal := bd.al
      generalize hA : acc.filter (fun x => decide (x.1 = n')) = fa at hvs hvl hfl
      have hrk : ∀ x ∈ fa, RkAt ns H2 x.2.2.2 := fun x hx => bd2.rk x (by rw [← hA] at hx; exact (List.mem_filter.mp hx).1)
      refine comp_lst (K := K) (a := c) (xs := vs) (fun j σ H3 => ∃ (v0 v1 v2' : Option V), σ = [v0, v1, v2'] ∧ Same H2 H3 ∧ H3 D = some (.lst (((fa.take j).filterMap fun x => if hitsD x.2.2.2 = true then x.2.2.2.t else none).map V.str))) ⟨_, _, _, rfl, (Same.refl H2).new gD, upd_same⟩ (fun j σ H3 ⟨_, _, _, _, s3, _⟩ => SqL.of (s3 _ _ hc)) ?_ ?_
      · rintro j y σ H3 hy ⟨v0, v1, v2', rfl, s3, hD3⟩
        obtain ⟨x, hx, t, rfl, ht⟩ := Paired.get? hvs hy
        obtain ⟨y1, tl, hrt, hkp, hto⟩ := (hrk x (List.mem_of_getElem? hx)).mono s3.tups
        have z0 : atI (V.str x.2.2.2.k :: y1 :: tl) 0 = some (.str x.2.2.2.k) := atI_nat (j := 0) rfl
        have z1 : atI (V.str x.2.2.2.k :: y1 :: tl) 1 = some y1 := atI_nat (j := 1) rfl
        refine ⟨t, _, rfl, SqT.of (s3 _ _ ht), rfl, _, _, rfl, _, _, rfl, _, _, rfl, rfl, ?_⟩
        refine ⟨_, rfl, x.2.2.2.a, _, _, _, rfl, rfl, SqT.of hrt, z0, (by show 2 ≤ sizeLine; decide), fun w gw => ?_⟩
        have s4 := s3.new (o := .tup [.str "do", .str "ask"]) gw
        have hD4 := upd_keep (o := .tup [.str "do", .str "ask"]) hD3 gw
        have hrt4 := upd_keep (o := .tup [.str "do", .str "ask"]) hrt gw
        refine ⟨w, (["do", "ask"] : List Str).map V.str, rfl, .inr (SqT.of upd_same), rfl, strs_flat _, _, rfl, ?_⟩
        rw [inV_strs]
        have hh : decide (x.2.2.2.k ∈ (["do", "ask"] : List Str)) = hitsD x.2.2.2 := by
          unfold hitsD
          by_cases a1 : x.2.2.2.k = "do" <;> by_cases a2 : x.2.2.2.k = "ask" <;> simp [a1, a2]
        rw [hh, take_succ_get hx]
        by_cases hb : hitsD x.2.2.2 = true
        · rw [hb]
          refine iteT ?_
          have hk' : x.2.2.2.k = "do" ∨ x.2.2.2.k = "ask" := by
            unfold hitsD at hb
            rwa [Bool.or_eq_true, decide_eq_true_eq, decide_eq_true_eq] at hb
          obtain ⟨m, hmN, hrt', rfl⟩ := hto hk'
          refine ⟨_, rfl, x.2.2.2.a, _, _, _, rfl, rfl, SqT.of hrt4, z1, _, hD4, ?_, _, _, _, rfl, s4.put gD, ?_⟩
          · have := List.length_filterMap_le (fun x : Str × Nat × Nat × Rk => if hitsD x.2.2.2 = true then x.2.2.2.t else none) (fa.take j)
            rw [List.length_take] at this
            rw [List.length_map]
            omega
          · rw [upd_same, List.filterMap_append, List.map_append]
            simp only [List.filterMap_cons, List.filterMap_nil, if_pos hb, hrt', List.map_cons, List.map_nil]
        · rw [Bool.eq_false_iff.mpr hb]
          refine iteF ?_
          refine ⟨_, _, _, rfl, s4, ?_⟩
          rw [List.filterMap_append]
          simp only [List.filterMap_cons, List.filterMap_nil, if_neg hb, List.append_nil]
          exact hD4
      · rintro σ H3 ⟨v0, v1, v2', rfl, s3, hD3⟩
        rw [hvl, List.take_length] at hD3
        have hD3' : H3 D = some (.lst ((gTo acc n').map V.str)) := by unfold gTo; rw [hA]; exact hD3
        have he3 := s3 _ _ he2
        have hDe : D ≠ e := fun z => by rw [z, he2] at gD; cases gD
        have hDd : D ≠ d := fun z => by rw [z, hd2] at gD; cases gD
        have hq2l : q2.length ≤ 12 := by
          have := congrArg List.length hq2
          rw [List.length_map, List.length_take, List.length_map] at this
          have := bd.ql
          omega
        have hnn : n' ∉ q2.map (·.1) := by
          rw [hq2]
          intro z
          obtain ⟨a, ha⟩ := List.getElem?_of_mem z
          have hai : a < i := by
            have := (List.getElem?_eq_some_iff.mp ha).1
            rw [List.length_take] at this
            omega
          rw [List.getElem?_take_of_lt hai] at ha
          have := (List.getElem?_inj (i := a) (j := i) (List.getElem?_eq_some_iff.mp ha).1 bd.nd).mp (ha.trans hn.symm)
          omega
        have hk : (Sum.inr n' : Key) ∉ (bkv q2).map (·.1) := fun z => by
          obtain ⟨q0, hq0, e0⟩ := List.mem_map.mp z
          obtain ⟨q', hq', e'⟩ := List.mem_map.mp hq0
          subst e'
          exact hnn (List.mem_map.mpr ⟨q', hq', Sum.inr.inj e0⟩)
        refine ⟨_, rfl, _, rfl, e, _, rfl, DPut.k (k := Sum.inr n') he3 (by unfold bkv; rw [List.length_map]; omega), ?_⟩
        refine ⟨q2 ++ [(n', D)], _, rfl, (fun a u ha h => ?_), by rw [upd_ne hed.symm]; exact s3 _ _ hd2, by rw [upd_same, putK_fresh hk, bkv_snoc], by rw [List.map_append, hq2, take_succ_get hn]; rfl, fun m c' h => ?_⟩
        · rw [upd_ne (show a ≠ e from fun z => by rw [z, ge] at h; cases h)]
          exact s3 _ _ (B2 a u ha h)
        · rcases List.mem_append.mp h with z | z
          · obtain ⟨a1, a2, a3⟩ := hl2 m c' z
            exact ⟨a1, a2, by rw [upd_ne a1]; exact s3 _ _ a3⟩
          · cases List.mem_singleton.mp z
            exact ⟨hDe, hDd, by rw [upd_ne hDe]; exact hD3'⟩
    · rintro σ H2 ⟨q2, v2, rfl, B2, hd2, he2, hq2, hl2⟩
      rw [List.length_map, List.take_length] at hq2
      exact ⟨_, rfl, q e q2 H2 B2 (.inr ⟨o, hd2⟩) hed he2 hq2 fun n c h => (hl2 n c h).2.2⟩
noncomputable def wfs (d l : Addr) (ah : Bool) : List (Str × V) := [("blocks", .ref d), ("loads", .ref l), ("ahead", .bl ah)]
theorem wfs_put (d l : Addr) (ah : Bool) : putF "ahead" (.bl ah) (putF "loads" (.ref l) (putF "blocks" (.ref d) [])) = wfs d l ah := by kernel_rfl
theorem wl_blocks {d l : Addr} {ah : Bool} : (wfs d l ah).lookup ("blocks" : Str) = some (.ref d) := by kernel_rfl
theorem wl_loads {d l : Addr} {ah : Bool} : (wfs d l ah).lookup ("loads" : Str) = some (.ref l) := by kernel_rfl
theorem wl_ahead {d l : Addr} {ah : Bool} : (wfs d l ah).lookup ("ahead" : Str) = some (.bl ah) := by kernel_rfl
theorem wl_m {d l : Addr} {ah : Bool} : (wfs d l ah).lookup ("rows_of" : Str) = none ∧ (wfs d l ah).lookup ("key_of" : Str) = none ∧ (wfs d l ah).lookup ("loads_of" : Str) = none ∧ (wfs d l ah).lookup ("ahead_of" : Str) = none := ⟨by kernel_rfl, by kernel_rfl, by kernel_rfl, by kernel_rfl⟩
noncomputable def LdsF (H : Hp) (l : Addr) (lds : List (Str × List Int)) : Prop := ∃ (ob : Obj) (ws : List V), H l = some (.frz ob (.tup ws)) ∧ ob.dict = none ∧ Paired (LdAt H) ws lds
theorem LdsF.keep {H H' : Hp} {l : Addr} {lds : List (Str × List Int)} (h : LdsF H l lds) (s : ∀ a o, H a = some o → ((∃ xs, o = .tup xs) ∨ ∃ ob xs, o = .frz ob (.tup xs)) → H' a = some o) : LdsF H' l lds := by
  obtain ⟨ob, ws, h1, h2, h3⟩ := h
  exact ⟨ob, ws, s _ _ h1 (.inr ⟨_, _, rfl⟩), h2, Paired.mapP h3 fun _ _ z => z.mono fun a xs h => s _ _ h (.inl ⟨_, rfl⟩)⟩
theorem LdsF.same {H H' : Hp} {l : Addr} {lds : List (Str × List Int)} (h : LdsF H l lds) (s : Same H H') : LdsF H' l lds := h.keep fun a o e _ => s a o e
theorem rd_ne {H : Hp} {d a : Addr} {kvs : List (Key × V)} {o : HO} (hd : Rd H d (.dK kvs)) (h : H a = some o) (ho : (∃ xs, o = .tup xs) ∨ ∃ ob xs, o = .frz ob (.tup xs)) : a ≠ d := fun z => by
  subst z
  rcases hd with h' | ⟨ob, h'⟩ <;> rw [h'] at h <;> cases h <;> rcases ho with ⟨_, e⟩ | ⟨_, _, e⟩ <;> cases e
structure Wk (CP : Addr) (ns : List Str) (H : Hp) (w d : Addr) (pk : List (List Ro)) (lds : List (Str × List Int)) (ah : Bool) : Prop where
  ex : ∃ (dx l : Addr) (qs : List (Str × Addr)), H w = some (.ins CP dx (wfs d l ah)) ∧ LdsF H l lds ∧ BdAt ns H d qs (tags 0 pk) ∧ qs.map (·.1) = pk.flatMap ptsOf
theorem Wk.same {CP : Addr} {ns : List Str} {H H' : Hp} {w d : Addr} {pk : List (List Ro)} {lds : List (Str × List Int)} {ah : Bool} (h : Wk CP ns H w d pk lds ah) (s : Same H H') : Wk CP ns H' w d pk lds ah := by
  obtain ⟨dx, l, qs, h1, h2, h3, h4⟩ := h.ex
  exact ⟨dx, l, qs, s _ _ h1, h2.same s, h3.same s, h4⟩
noncomputable def LpAt (H : Hp) (p : Str × V) (q : Str × List Int) : Prop := p.1 = q.1 ∧ ∃ u, p.2 = .ref u ∧ H u = some (.tup (q.2.map V.int))
theorem ld_pairs {K : PySem.W.Frag} {H : Hp} : ∀ {ws : List V} {lds : List (Str × List Int)}, Paired (LdAt H) ws lds → ∃ lp : List (Str × V), Paired (fun v (p : Str × V) => ∃ t, v = .ref t ∧ SqT K H t [.str p.1, p.2]) ws lp ∧ Paired (LpAt H) lp lds
  | _, _, .nil => ⟨[], .nil, .nil⟩
  | _, _, .cons h t => by
    obtain ⟨lp, h1, h2⟩ := ld_pairs (K := K) t
    obtain ⟨t', u, e1, e2, e3⟩ := h
    exact ⟨(_, .ref u) :: lp, .cons ⟨t', e1, SqT.of e2⟩ h1, .cons ⟨rfl, u, rfl, e3⟩ h2⟩
noncomputable def ldFold (n : Str) (a : List Int) (lds : List (Str × List Int)) : List Int := lds.foldl (fun a q => if q.1 = n then q.2 else a) a
noncomputable def LdV (H : Hp) (o : Option V) (xs : List Int) : Prop := (o = none ∧ xs = []) ∨ ∃ u, o = some (.ref u) ∧ H u = some (.tup (xs.map V.int))
theorem ld_fold {H : Hp} {n : Str} : ∀ {lp : List (Str × V)} {lds : List (Str × List Int)} {m : List (Key × V)} {a : List Int}, Paired (LpAt H) lp lds → LdV H (valV m (Sum.inr n)) a → LdV H (valV (foldP lp m) (Sum.inr n)) (ldFold n a lds)
  | _, _, m, a, .nil, h => h
  | _, _, m, a, .cons (a := p) (b := q) h t, h0 => by
    refine ld_fold (m := putK m (Sum.inr p.1) p.2) (a := if q.1 = n then q.2 else a) t ?_
    obtain ⟨e1, u, e2, e3⟩ := h
    rw [valV_put]
    by_cases e : q.1 = n
    · rw [if_pos e, if_pos (by rw [e1, e])]
      exact .inr ⟨u, by rw [e2], e3⟩
    · rw [if_neg e, if_neg (fun z => e (by rw [← e1]; exact (Sum.inr.inj z).symm))]
      exact h0
theorem LdV.same {H H' : Hp} (s : Tups H H') {o : Option V} {xs : List Int} (h : LdV H o xs) : LdV H' o xs := by
  rcases h with h | ⟨u, h1, h2⟩
  · exact .inl h
  · exact .inr ⟨u, h1, s _ _ h2⟩
theorem LdV.get {H : Hp} {o : Option V} {xs : List Int} (h : LdV H o xs) {t : Addr} (ht : H t = some (.tup [])) : ∃ u, o.getD (.ref t) = .ref u ∧ H u = some (.tup (xs.map V.int)) := by
  rcases h with ⟨rfl, rfl⟩ | ⟨u, rfl, h2⟩
  · exact ⟨t, rfl, ht⟩
  · exact ⟨u, rfl, h2⟩
noncomputable def spPkInit (CP : Addr) : Sp := fun vs H Q _ => ∃ (w t dx : Addr) (ah : Bool) (ns : List Str) (bs : List (List Rk)) (pk : List (List Ro)) (lds : List (Str × List Int)), vs = [.ref w, .ref t, .bl ah] ∧ H w = some (.ins CP dx []) ∧ MdAt ns bs H t pk lds ∧ ns.Nodup ∧ ns.length ≤ 12 ∧
  ∀ (d : Addr) (H' : Hp), But w H H' → H d = none → Wk CP ns H' w d pk lds ah → Q .non H'
theorem rk_tags {ns : List Str} {H : Hp} : ∀ {vs : List V} {Pl : List Ro}, Paired (RoAt ns H) vs Pl → ∀ (c : Str) (i : Nat), ∀ x ∈ tag c i Pl, RkAt ns H x.2.2
  | _, _, .nil, _, _, x, hx => by simp [tag] at hx
  | _, _, .cons (b := o) h t, c, i, x, hx => by
    cases o with
    | part n => exact rk_tags t n (i + 1) x hx
    | row r =>
      rcases List.mem_cons.mp hx with z | z
      · rw [z]; exact h.2
      · exact rk_tags t c (i + 1) x z
theorem rk_all {ns : List Str} {H : Hp} : ∀ {us : List V} {pk : List (List Ro)}, Paired (PkAt ns H) us pk → ∀ (j : Nat), ∀ x ∈ tags j pk, RkAt ns H x.2.2.2
  | _, _, .nil, _, x, hx => by simp [tags] at hx
  | _, _, .cons h t, j, x, hx => by
    obtain ⟨a, vs, _, _, h3⟩ := h
    rcases List.mem_append.mp hx with z | z
    · obtain ⟨y, hy, rfl⟩ := List.mem_map.mp z
      exact rk_tags h3 "" 0 y hy
    · exact rk_all t (j + 1) x z
theorem ok_PkInit {dvs : List V} {ds : List Value} (hds : Vals dvs ds) (hb : ∀ (D : Addr) (kV doc pm : Value) (an : Option Addr) (cdv ct : Value) (us : List Value), (us ++ ds).length = 3 → ∃ k : Option (Array Value) → Sem (List (Str × Value)), bindArgs (PySem.W.fnOf "__init__" "PacksWalk.__init__" (defArgs s_PacksWalk___init__) (defBody s_PacksWalk___init__) (defScope s_PacksWalk___init__) (.ref D) kV doc pm an cdv ct) ⟨us, []⟩ = seqItems? (.ref D) >>= k ∧ k (some #[.bool false]) = pure ((["self", "bundle", "ahead"] : List Str).zip (us ++ ds)))
    (T : Tc K mg CP CW) : ICl1 P w K mg base 2 "PacksWalk" CP ["self", "bundle", "ahead"] dvs (spPkInit CP) := by
  have C_blocks_in := ok_blocks_in (P := P) (w := w) (base := base) T.toTxt
  refine ICl1.of T.i_PacksWalk T.g_PacksWalk sc_PacksWalk___init__ (fun vs H Q E h => ?_) hds hb (fun fa cdv A outer s H vs Q E hr h => ?_)
  · obtain ⟨w, t, dx, ah, ns, bs, pk, lds, rfl, _⟩ := h
    rfl
  · obtain ⟨w, t, dx, ah, ns, bs, pk, lds, rfl, hw, md, hnd, hn12, q⟩ := h
    obtain ⟨p, o, l, us, ws, ob, ht, hp, hus, hl, hob, hws⟩ := md.ex
    refine ⟨_, (pss_cons (ps_fld (pv 0) (pe_fn C_blocks_in hr (by rfl) (pa_cons (pe_ix ix_tup (pv 1) pe_int (fun _ _ => rfl)) pa_nil)) rfl)
      (pss_cons (ps_fld (pv 0) (pe_ix ix_tup (pv 1) pe_int (fun _ _ => rfl)) rfl)
      (pss_one (ps_fld (pv 0) (pv 2) rfl)))), ?_⟩
    have hpn : (pk.flatMap ptsOf).Nodup := md.ok.pt.nodup_iff.mpr hnd
    have hpl : (pk.flatMap ptsOf).length ≤ 12 := by rw [md.ok.pt.length_eq]; exact hn12
    refine ⟨_, rfl, t, _, _, _, rfl, rfl, SqT.of ht, atI_nat (j := 0) rfl, p, us, ns, pk, rfl, hp, hus, md.ok.hd, hpn, md.pl, md.rl, hpl, fun d qs H1 b1 hq1 => ?_⟩
    have hw1 := b1.sm _ _ hw
    have hdw : d ≠ w := fun z => by rw [← z, b1.d0] at hw; cases hw
    refine ⟨_, rfl, w, CP, dx, _, rfl, hw1, T.c_PacksWalk, T.nP_blocks, (by show 0 < 1000; decide), ?_⟩
    have htw : t ≠ w := fun z => by rw [z, hw] at ht; cases ht
    refine ⟨_, rfl, t, _, _, _, rfl, rfl, SqT.of (by rw [upd_ne htw]; exact b1.sm _ _ ht), atI_nat (j := 2) rfl, _, rfl, w, CP, dx, _, rfl, upd_same, T.c_PacksWalk, T.nP_loads, (by show 1 < 1000; decide), ?_⟩
    refine ⟨_, rfl, _, rfl, w, CP, dx, _, rfl, upd_same, T.c_PacksWalk, T.nP_ahead, (by show 2 < 1000; decide), ?_⟩
    rw [wfs_put]
    have e3 : upd (upd (upd H1 w (.ins CP dx (putF "blocks" (.ref d) []))) w (.ins CP dx (putF "loads" (.ref l) (putF "blocks" (.ref d) [])))) w (.ins CP dx (wfs d l ah)) = upd H1 w (.ins CP dx (wfs d l ah)) := by
      funext a
      by_cases z : a = w
      · rw [z, upd_same, upd_same]
      · rw [upd_ne z, upd_ne z, upd_ne z, upd_ne z]
    rw [e3]
    have B1 : But w H1 (upd H1 w (.ins CP dx (wfs d l ah))) := fun a u ha e => by rw [upd_ne ha]; exact e
    have T1 : Tups H1 (upd H1 w (.ins CP dx (wfs d l ah))) := fun a xs e => B1 a _ (fun z => by rw [z, hw1] at e; cases e) e
    have T0 := b1.sm.tups.trans T1
    refine q d _ (fun a u ha e => B1 a u ha (b1.sm a u e)) b1.d0 ⟨dx, l, qs, upd_same, ⟨ob, ws, B1 _ _ (fun z => by rw [z, hw] at hl; cases hl) (b1.sm _ _ hl), hob, Paired.mapP hws fun _ _ z => z.mono T0⟩, ⟨.inl (B1 _ _ hdw b1.hd), b1.nd, ?_, md.tl, fun n c h => ?_, fun x hx => (rk_all hus 0 x hx).mono T0⟩, hq1⟩
    · have := congrArg List.length hq1
      rw [List.length_map] at this
      omega
    · obtain ⟨f0, fd⟩ := b1.fr c (List.mem_map.mpr ⟨_, h, rfl⟩)
      obtain ⟨vs, h1, h2⟩ := b1.ls n c h
      exact ⟨fd, vs, B1 _ _ (fun z => by rw [z, hw] at f0; cases f0) h1, Paired.mapP h2 fun _ _ z => z.mono T1⟩
theorem ok_PkInit3 (T : Tc K mg CP CW) : ICl1 P w K mg base 2 "PacksWalk" CP ["self", "bundle", "ahead"] [] (spPkInit CP) :=
  ok_PkInit .nil (fun D kV doc pm an cdv ct us hl => by
    rw [List.append_nil] at hl ⊢
    match us, hl with
    | [_, _, _], _ => exact ⟨_, rfl, rfl⟩) T
theorem ok_PkInit2 (T : Tc K mg CP CW) : ICl1 P w K mg base 2 "PacksWalk" CP ["self", "bundle", "ahead"] [.bl false] (spPkInit CP) :=
  ok_PkInit (ds := [.bool false]) (.cons rfl .nil) (fun D kV doc pm an cdv ct us hl => by
    have hl2 : us.length = 2 := by rw [List.length_append] at hl; exact Nat.succ.inj hl
    match us, hl2 with
    | [_, _], _ => exact ⟨_, rfl, rfl⟩) T
noncomputable def spRowsOf (CP : Addr) : Sp := fun vs H Q _ => ∃ (w d : Addr) (n : Str) (ns : List Str) (pk : List (List Ro)) (lds : List (Str × List Int)) (ah : Bool), vs = [.ref w, .str n] ∧ Wk CP ns H w d pk lds ah ∧ n ∈ pk.flatMap ptsOf ∧
  ∀ (t : Addr) (vs : List V) (H' : Hp), Same H H' → H' t = some (.tup vs) → Paired (TrAt H') vs ((tags 0 pk).filter fun x => decide (x.1 = n)) → Q (.ref t) H'
theorem ok_rows_of (T : Tc K mg CP CW) : MCl P w K mg base 1 CP "rows_of" ["self", "part"] (spRowsOf CP) := by
  refine MCl.of T.m_rows_of sc_PacksWalk_rows_of (fun vs H Q E h => ?_) (fun _ _ _ _ _ _ us hl => by obtain ⟨a, b, rfl⟩ := len2 hl; rfl) (fun fa cdv A outer s H vs Q E hr h => ?_)
  · obtain ⟨w, d, n, ns, pk, lds, ah, rfl, _⟩ := h
    rfl
  · obtain ⟨w, d, n, ns, pk, lds, ah, rfl, wk, hn, q⟩ := h
    have hu := hu_of hr
    obtain ⟨dx, l, qs, h1, h2, bd, hq⟩ := wk.ex
    rw [← hq] at hn
    obtain ⟨⟨n', c⟩, hqm, en⟩ := List.mem_map.mp hn
    obtain rfl : n' = n := en
    obtain ⟨hcd, vs, hc, hvs⟩ := bd.ls _ _ hqm
    have hg := DGet.kr (k := Sum.inr n') bd.hd
    rw [bkv_val bd.nd hqm] at hg
    refine ⟨_, (pss_one (ps_ret (pe_callTy call_tuple_of (by rfl) T.n_tuple boot_tuple (pa_cons (pe_dget hu (pe_fld (pv 0) rfl) (pv 1) (fun _ _ => rfl)) pa_nil)))), ?_⟩
    refine ⟨_, rfl, w, CP, dx, _, _, rfl, h1, T.c_PacksWalk, T.nP_blocks, wl_blocks, _, rfl, d, _, rfl, hg, c, _, rfl, .inl ⟨SqL.of hc, fun t gt => ?_⟩⟩
    have s1 : Same H (upd H t (.tup vs)) := (Same.refl H).new gt
    exact q t vs _ s1 upd_same (Paired.mapP hvs fun _ _ z => z.mono s1.tups)
theorem ok_key_of (T : Tc K mg CP CW) : MCl P w K mg base 1 CP "key_of" ["self", "part", "name"] (fun vs H Q _ => ∃ (w : Addr) (p n : Str), vs = [.ref w, .str p, .str n] ∧ Q (.str n) H) := by
  refine MCl.of T.m_key_of sc_Walk_key_of (fun vs H Q E h => ?_) (fun _ _ _ _ _ _ us hl => by obtain ⟨a, b, c, rfl⟩ := len3 hl; rfl) (fun fa cdv A outer s H vs Q E hr h => ?_)
  · obtain ⟨w, p, n, rfl, _⟩ := h
    rfl
  · obtain ⟨w, p, n, rfl, q⟩ := h
    refine ⟨_, (pss_one (ps_ret (pv 2))), ?_⟩
    exact ⟨_, rfl, q⟩
noncomputable def spLoadsOf (CP : Addr) : Sp := fun vs H Q _ => ∃ (w d : Addr) (n : Str) (ns : List Str) (pk : List (List Ro)) (lds : List (Str × List Int)) (ah : Bool), vs = [.ref w, .str n] ∧ Wk CP ns H w d pk lds ah ∧ lds.length ≤ 25 ∧
  ∀ (u : Addr) (H' : Hp), Same H H' → H' u = some (.tup ((ldFold n [] lds).map V.int)) → Q (.ref u) H'
theorem ok_loads_of (T : Tc K mg CP CW) : MCl P w K mg base 1 CP "loads_of" ["self", "part"] (spLoadsOf CP) := by
  refine MCl.of T.m_loads_of sc_PacksWalk_loads_of (fun vs H Q E h => ?_) (fun _ _ _ _ _ _ us hl => by obtain ⟨a, b, rfl⟩ := len2 hl; rfl) (fun fa cdv A outer s H vs Q E hr h => ?_)
  · obtain ⟨w, d, n, ns, pk, lds, ah, rfl, _⟩ := h
    rfl
  · obtain ⟨w, d, n, ns, pk, lds, ah, rfl, wk, hll, q⟩ := h
    have hu := hu_of hr
    obtain ⟨dx, l, qs, h1, ⟨ob, ws, hl, hob, hws⟩, bd, hq⟩ := wk.ex
    obtain ⟨lp, hlp, hlq⟩ := ld_pairs (K := K) hws
    have e1 := Paired.length hlq
    refine ⟨_, (pss_one (ps_ret (pe_dget2 hu (pe_callTy (call_dictT rfl) (by rfl) T.n_dict boot_dict (pa_cons (pe_fld (pv 0) rfl) pa_nil)) (pv 1) (pe_tup pa_nil) ⟨rfl, rfl, rfl, rfl⟩))), ?_⟩
    refine ⟨_, rfl, w, CP, dx, _, _, rfl, h1, T.c_PacksWalk, T.nP_loads, wl_loads, l, ob, ws, lp, rfl, hl, hob, hlp, (by omega), fun dd gdd => ?_⟩
    have s1 : Same H (upd H dd (.dK (foldP lp []))) := (Same.refl H).new gdd
    have hdd : upd H dd (.dK (foldP lp [])) dd = some (.dK (foldP lp [])) := upd_same
    generalize upd H dd (.dK (foldP lp [])) = H1 at s1 hdd ⊢
    refine ⟨dd, rfl, .inl ⟨_, .inl hdd⟩, _, rfl, (by show 0 ≤ sizeLine; decide), fun t gt => ?_⟩
    have s2 := s1.new (o := .tup []) gt
    refine ⟨_, DGet.k (k := Sum.inr n) (upd_keep hdd gt), ?_⟩
    have hv := (ld_fold (n := n) (m := []) (a := []) hlq (.inl ⟨rfl, rfl⟩)).same s2.tups
    obtain ⟨u, eu, hu'⟩ := hv.get (t := t) upd_same
    rw [eu]
    exact q u _ s2 hu'
noncomputable def aheadL (p : Str → Bool) (lds : List (Str × List Int)) : List Int := lds.flatMap fun q => if p q.1 = true then q.2 else []
theorem aheadL_snoc (p : Str → Bool) (A : List (Str × List Int)) (q : Str × List Int) : aheadL p (A ++ [q]) = aheadL p A ++ (if p q.1 = true then q.2 else []) := by
  unfold aheadL
  rw [List.flatMap_append]
  simp
theorem aheadL_len {p : Str → Bool} : ∀ {lds : List (Str × List Int)}, (∀ q ∈ lds, q.2.length ≤ 12) → (aheadL p lds).length ≤ 12 * lds.length
  | [], _ => Nat.le_refl _
  | q :: t, h => by
    have h1 := aheadL_len (p := p) (lds := t) fun x hx => h x (List.mem_cons_of_mem _ hx)
    have h2 := h q List.mem_cons_self
    unfold aheadL at h1 ⊢
    rw [List.flatMap_cons, List.length_append, List.length_cons]
    have h3 : (if p q.1 = true then q.2 else []).length ≤ 12 := by split; exact h2; simp
    omega
noncomputable def spAheadOf (CP : Addr) : Sp := fun vs H Q _ => ∃ (w d : Addr) (root : Str) (ns : List Str) (bs : List (List Rk)) (pk : List (List Ro)) (lds : List (Str × List Int)) (ah : Bool), vs = [.ref w, .str root] ∧ Wk CP ns H w d pk lds ah ∧ PkOk ns bs pk ∧ ns.length ≤ 12 ∧ root ∈ ns ∧ lds.length ≤ 25 ∧ (∀ q ∈ lds, q.2.length ≤ 12) ∧ (tags 0 pk).length ≤ 480 ∧
  ∀ (t : Addr) (xs : List Int) (H' : Hp), But d H H' → Wk CP ns H' w d pk lds ah → H' t = some (.tup (xs.map V.int)) → (ah = false → xs = []) → (ah = true → ∃ p : Str → Bool, (∀ n, p n = true ↔ Rch (fun a b => b ∈ gTo (tags 0 pk) a) [root] n) ∧ xs = aheadL p lds) → Q (.ref t) H'
theorem gTo_in {ns : List Str} {H : Hp} {acc : List (Str × Nat × Nat × Rk)} (h : ∀ x ∈ acc, RkAt ns H x.2.2.2) {n m : Str} (hm : m ∈ gTo acc n) : m ∈ ns := by
  unfold gTo at hm
  obtain ⟨x, hx, e⟩ := List.mem_filterMap.mp hm
  obtain ⟨y, tl, _, _, hto⟩ := h x (List.mem_filter.mp hx).1
  split at e
  · rename_i hh
    unfold hitsD at hh
    rw [Bool.or_eq_true, decide_eq_true_eq, decide_eq_true_eq] at hh
    obtain ⟨m', hm', e', _⟩ := hto hh
    rw [e] at e'
    cases e'
    exact hm'
  · cases e
theorem ok_ahead_of (T : Tc K mg CP CW) : MCl P w K mg base 2 CP "ahead_of" ["self", "root"] (spAheadOf CP) := by
  have C_spread := ok_spread (P := P) (w := w) (base := base) T.toTxt
  have C_next_parts := ok_next_parts (P := P) (w := w) (base := base) T.toTxt
  refine MCl.of T.m_ahead_of sc_PacksWalk_ahead_of (fun vs H Q E h => ?_) (fun _ _ _ _ _ _ us hl => by obtain ⟨a, b, rfl⟩ := len2 hl; rfl) (fun fa cdv A outer s H vs Q E hr h => ?_)
  · obtain ⟨w, d, root, ns, bs, pk, lds, ah, rfl, _⟩ := h
    rfl
  · obtain ⟨w, d, root, ns, bs, pk, lds, ah, rfl, wk, pko, hn12, hroot, hll, hl12, htl, q⟩ := h
    have hu := hu_of hr
    obtain ⟨dx, l, qs, h1, lf, bd, hq⟩ := wk.ex
    refine ⟨_, (@pss_cons _ _ _ _ _ (@ps_if _ _ _ _ _ _ _ _ (@pt_not _ _ _ _ (@pt_val _ _ _ (@pe_fld _ _ _ _ _ (@pv _ 0 _ _ (by rfl) (by first   | exact Or.inl rfl   | exact Or.inr (Or.inl rfl)   | exact Or.inr (Or.inr rfl)) (by decide) (by decide)) rfl) (by intro _; rfl))) (@pss_one _ _ _ (@ps_ret _ _ _ _ (@pe_tup _ _ _ _ _ (@pa_nil _)))) (@pss_nil _)) (@pss_cons _ _ _ _ _ (@ps_set _ _ (2) _ _ _ _ sc_PacksWalk_ahead_of.nd rfl (Or.inl rfl) (@pe_fn _ _ _ _ _ _ _ _ _ _ _ C_spread hr (by rfl) (@pa_cons _ _ _ _ _ (@pe_fn _ _ _ _ _ _ _ _ _ _ _ C_next_parts hr (by rfl) (@pa_cons _ _ _ _ _ (@pe_fld _ _ _ _ _ (@pv _ 0 _ _ (by rfl) (by first   | exact Or.inl rfl   | exact Or.inr (Or.inl rfl)   | exact Or.inr (Or.inr rfl)) (by decide) (by decide)) rfl) (@pa_nil _) (by rfl)) (by decide) (by decide) (by rfl) (by rfl)) (@pa_cons _ _ _ _ _ (@pe_tup _ _ _ _ _ (@pa_cons _ _ _ _ _ (@pv _ 1 _ _ (by rfl) (by first   | exact Or.inl rfl   | exact Or.inr (Or.inl rfl)   | exact Or.inr (Or.inr rfl)) (by decide) (by decide)) (@pa_nil _) (by rfl))) (@pa_nil _) (by rfl)) (by rfl)) (by decide) (by decide) (by rfl) (by rfl)) (by rfl) (by first   | exact .inl rfl   | exact .inr rfl   | assumption)) (@pss_cons _ _ _ _ _ (@ps_set _ _ (3) _ _ _ _ sc_PacksWalk_ahead_of.nd rfl (Or.inl rfl) (@pe_lst _ _ _ _ (@pa_nil _)) (by rfl) (by first   | exact .inl rfl   | exact .inr rfl   | assumption)) (@pss_cons _ _ _ _ _ (@ps_for _ _ _ _ _ _ _ _ PassesOwn.never rfl (@pi_tup _ _ _ _ (@pe_fld _ _ _ _ _ (@pv _ 0 _ _ (by rfl) (by first   | exact Or.inl rfl   | exact Or.inr (Or.inl rfl)   | exact Or.inr (Or.inr rfl)) (by decide) (by decide)) rfl)) (@pg_tup _ _ _ _ _ _ rfl (@pgs_cons _ _ _ _ _ (@pg_name _ _ (4) _ sc_PacksWalk_ahead_of.nd rfl (Or.inl rfl) (by first   | exact .inl rfl   | exact .inr rfl   | assumption)) (@pgs_cons _ _ _ _ _ (@pg_name _ _ (5) _ sc_PacksWalk_ahead_of.nd rfl (Or.inl rfl) (by first   | exact .inl rfl   | exact .inr rfl   | assumption)) (@pgs_nil _) (by rfl)) (by rfl)) (by rfl) (by rfl)) (@pss_one _ _ _ (@ps_if _ _ _ _ _ _ _ _ (@pt_cmp _ _ _ _ _ _ (@pc_din _ _ _ _ _ hu (@pv _ 4 _ _ (by rfl) (by first   | exact Or.inl rfl   | exact Or.inr (Or.inl rfl)   | exact Or.inr (Or.inr rfl)) (by decide) (by decide)) (@pv _ 2 _ _ (by rfl) (by first   | exact Or.inl rfl   | exact Or.inr (Or.inl rfl)   | exact Or.inr (Or.inr rfl)) (by decide) (by decide))) (by first   | exact nobehind _ (by decide) (by decide)   | rfl)) (@pss_one _ _ _ (@ps_expr _ _ _ _ (@pe_bm _ _ _ _ _ _ _ _ _ _ _ _ PySem.F.plainAttrs_list PySem.F.slot_list_extend PySem.F.type_list_extend (@mt_extendT _) (@pv _ 3 _ _ (by rfl) (by first   | exact Or.inl rfl   | exact Or.inr (Or.inl rfl)   | exact Or.inr (Or.inr rfl)) (by decide) (by decide)) (@pa_cons _ _ _ _ _ (@pv _ 5 _ _ (by rfl) (by first   | exact Or.inl rfl   | exact Or.inr (Or.inl rfl)   | exact Or.inr (Or.inr rfl)) (by decide) (by decide)) (@pa_nil _) (by rfl)) (by rfl) (by rfl) (by rfl) (by rfl) (by rfl)) (by rfl))) (@pss_nil _))) (by intro _; rfl)) (@pss_one _ _ _ (@ps_ret _ _ _ _ (@pe_callTy _ _ _ _ _ _ _ _ _ (@call_tuple_of _) (by rfl) T.n_tuple boot_tuple (@pa_cons _ _ _ _ _ (@pv _ 3 _ _ (by rfl) (by first   | exact Or.inl rfl   | exact Or.inr (Or.inl rfl)   | exact Or.inr (Or.inr rfl)) (by decide) (by decide)) (@pa_nil _) (by rfl)) (by decide) (by decide) (by rfl) (by rfl)))))))), ?_⟩
    cases ah with
    | false =>
      refine ⟨_, rfl, w, CP, dx, _, _, rfl, h1, T.c_PacksWalk, T.nP_ahead, wl_ahead, _, rfl, ?_⟩
      refine iteT ?_
      refine ⟨(by show 0 ≤ sizeLine; decide), fun t gt => ?_⟩
      have s1 : Same H (upd H t (.tup [])) := (Same.refl H).new gt
      exact q t [] _ (fun a o _ h => s1 a o h) (wk.same s1) upd_same (fun _ => rfl) (fun z => by cases z)
    | true =>
      refine ⟨_, rfl, w, CP, dx, _, _, rfl, h1, T.c_PacksWalk, T.nP_ahead, wl_ahead, _, rfl, ?_⟩
      refine iteF (to_n ?_)
      refine ⟨_, rfl, w, CP, dx, _, _, rfl, h1, T.c_PacksWalk, T.nP_blocks, wl_blocks, d, ns, qs, tags 0 pk, rfl, bd, fun e q2 H1 B1 hrd hed he hq2 hl2 => ?_⟩
      have hwd : w ≠ d := fun z => by
        rcases bd.hd with h | ⟨o, h⟩
        · rw [← z, h1] at h; cases h
        · rw [← z, h1] at h; cases h
      have hw1 := B1 _ _ hwd h1
      have bd1 := bd.but B1 hrd
      have lf1 : LdsF H1 l lds := lf.keep fun a o h ho => B1 a o (rd_ne bd.hd h ho) h
      refine ⟨_, rfl, (by show 1 ≤ sizeLine; decide), fun rt grt => ?_⟩
      have s2 : Same H1 (upd H1 rt (.tup [.str root])) := (Same.refl H1).new grt
      have hrt : upd H1 rt (.tup [.str root]) rt = some (.tup [.str root]) := upd_same
      generalize upd H1 rt (.tup [.str root]) = H2 at s2 hrt ⊢
      have hN : ∀ n, n ∈ qs.map (·.1) ↔ n ∈ ns := fun n => by rw [hq]; exact pko.pt.mem_iff
      have hq2n : (q2.map (·.1)).Nodup := by rw [hq2]; exact bd.nd
      have hql := bd.ql
      refine ⟨e, rt, bkv q2, [root], qs.map (·.1), gTo (tags 0 pk), rfl, .inl (s2 _ _ he), hrt, fun n hn => ?_, fun n hn => ?_, fun n hn m hm => ?_, fun n hn => ?_, by simp, by rw [List.length_map]; omega, fun f lr H3 s3 hf hlr => ?_⟩
      · rw [← hq2] at hn
        obtain ⟨⟨n', c⟩, hqm, en⟩ := List.mem_map.mp hn
        obtain rfl : n' = n := en
        exact ⟨c, bkv_val hq2n hqm, .inl (s2 _ _ (hl2 _ _ hqm))⟩
      · rw [List.mem_singleton.mp hn]; exact (hN root).mpr hroot
      · exact (hN m).mpr (gTo_in bd.rk hm)
      · have := List.length_filterMap_le (fun x : Str × Nat × Nat × Rk => if hitsD x.2.2.2 = true then x.2.2.2.t else none) ((tags 0 pk).filter fun x => decide (x.1 = n))
        have h2 := List.length_filter_le (fun x : Str × Nat × Nat × Rk => decide (x.1 = n)) (tags 0 pk)
        unfold gTo
        omega
      have s13 := s2.trans s3
      have hw3 := s13 _ _ hw1
      refine ⟨(by show 0 ≤ sizeLine; decide), fun F gF => ?_⟩
      have s4 : Same H3 (upd H3 F (.lst [])) := (Same.refl H3).new gF
      have hF4 : upd H3 F (.lst []) F = some (.lst (([] : List Int).map V.int)) := upd_same
      generalize upd H3 F (.lst []) = H4 at s4 hF4 ⊢
      have hw4 := s4 _ _ hw3
      obtain ⟨ob, ws, hl4, hob, hws⟩ := lf1.same (s13.trans s4)
      have hf4 := s4 _ _ hf
      have hfF : f ≠ F := fun z => by rw [z, gF] at hf; cases hf
      have hlF : l ≠ F := fun z => by rw [z, hF4] at hl4; cases hl4
      refine ⟨_, rfl, w, CP, dx, _, _, rfl, hw4, T.c_PacksWalk, T.nP_loads, wl_loads, l, rfl, ⟨_, .inl (.inr ⟨ob, hl4⟩)⟩, ?_⟩
      have hlq := Paired.length hws
      refine for_tup (K := K) (a := l) (xs := ws) (fun i σ H5 => ∃ (v4 v5 : Option V), σ = [some (.ref w), some (.str root), some (.ref f), some (.ref F), v4, v5] ∧ But F H4 H5 ∧ H5 F = some (.lst ((aheadL (fun n => decide (n ∈ lr)) (lds.take i)).map V.int))) ⟨none, none, rfl, fun _ _ _ h => h, hF4⟩ (fun i σ H5 _ ⟨_, _, _, B5, _⟩ => .inl (.inr ⟨ob, B5 _ _ hlF hl4⟩)) ?_ ?_
      · rintro i x σ H5 hx ⟨v4, v5, rfl, B5, hF5⟩
        obtain ⟨⟨n, xs⟩, hld, t, u, rfl, ht, hu'⟩ := Paired.get? hws hx
        dsimp only at ht hu'
        have ht5 := B5 _ _ (fun z => by rw [z, hF4] at ht; cases ht) ht
        have hu5 := B5 _ _ (fun z => by rw [z, hF4] at hu'; cases hu') hu'
        have hf5 := B5 _ _ hfF hf4
        have hxl : xs.length ≤ 12 := hl12 _ (List.mem_of_getElem? hld)
        have hal := aheadL_len (p := fun n => decide (n ∈ lr)) (lds := lds.take i) fun q hq => hl12 q (List.mem_of_mem_take hq)
        rw [List.length_take] at hal
        refine ⟨t, _, rfl, SqT.of ht5, rfl, _, _, rfl, _, _, rfl, rfl, ?_⟩
        refine ⟨_, rfl, _, rfl, f, _, rfl, DGet.k (k := Sum.inr n) hf5, _, rfl, ?_⟩
        rw [setD_some]
        rw [take_succ_get hld, aheadL_snoc]
        by_cases hin : n ∈ lr
        · rw [decide_eq_true hin]
          refine iteT ?_
          refine ⟨_, rfl, .inl ⟨rfl, _, SqL.of hF5⟩, _, rfl, F, u, _, _, rfl, rfl, hF5, SqT.of hu5, (by rw [List.length_map, List.length_map]; exact Nat.le_of_lt (small1000 (by omega))), ?_⟩
          refine ⟨_, _, rfl, fun a o ha h => by rw [upd_ne ha]; exact B5 a o ha h, ?_⟩
          rw [upd_same, List.map_append]
          simp [hin]
        · rw [decide_eq_false hin]
          refine iteF ?_
          refine ⟨_, _, rfl, B5, ?_⟩
          simp only [hin, decide_false, Bool.false_eq_true, if_false, List.append_nil]
          exact hF5
      · rintro σ H5 ⟨v4, v5, rfl, B5, hF5⟩
        rw [hlq, List.take_length] at hF5
        refine ⟨_, rfl, F, _, rfl, .inl ⟨SqL.of hF5, fun t gt => ?_⟩⟩
        have s6 : Same H5 (upd H5 t (.tup ((aheadL (fun n => decide (n ∈ lr)) lds).map V.int))) := (Same.refl H5).new gt
        have gF1 : H1 F = none := s13.free gF
        have B16 : ∀ a o, H1 a = some o → upd H5 t (.tup ((aheadL (fun n => decide (n ∈ lr)) lds).map V.int)) a = some o := fun a o h => s6 _ _ (B5 a o (fun z => by rw [z, gF1] at h; cases h) (s4 _ _ (s13 _ _ h)))
        refine q t _ _ (fun a o ha h => B16 _ _ (B1 a o ha h)) ⟨dx, l, qs, B16 _ _ hw1, lf1.same B16, bd1.same B16, hq⟩ upd_same (fun z => by cases z) fun _ => ⟨fun n => decide (n ∈ lr), fun n => ?_, rfl⟩
        rw [decide_eq_true_eq]
        exact hlr n
theorem inV_ints (x : Int) : ∀ l : List Int, inV (.int x) (l.map V.int) = decide (x ∈ l)
  | [] => by simp [inV]
  | a :: r => by
    have ih := inV_ints x r
    unfold inV at ih ⊢
    rw [List.map_cons, List.any_cons, ih]
    by_cases h : x = a
    · subst h; simp [eqV]
    · simp [eqV, h, Ne.symm h]
noncomputable def firsts (xs : List Int) : List Int := xs.foldl (fun a x => if x ∈ a then a else a ++ [x]) []
theorem firsts_snoc (A : List Int) (x : Int) : firsts (A ++ [x]) = if x ∈ firsts A then firsts A else firsts A ++ [x] := by unfold firsts; rw [List.foldl_append]; rfl
theorem firsts_len (xs : List Int) : ∀ i, (firsts (xs.take i)).length ≤ i
  | 0 => by simp [firsts]
  | i + 1 => by
    have ih := firsts_len xs i
    by_cases h : i < xs.length
    · rw [take_succ_get (x := xs[i]) (List.getElem?_eq_getElem h), firsts_snoc]
      split
      · omega
      · rw [List.length_append]; simp; omega
    · rw [List.take_of_length_le (by omega)] at ih ⊢
      omega
noncomputable def spFirsts (K : PySem.W.Frag) : Sp := fun vs H Q _ => ∃ (a : Addr) (xs : List Int), vs = [.ref a] ∧ (H a = some (.tup (xs.map V.int)) ∨ H a = some (.lst (xs.map V.int))) ∧ xs.length ≤ 900 ∧ ∀ (l : Addr) (H' : Hp), Same H H' → H' l = some (.lst ((firsts xs).map V.int)) → Q (.ref l) H'
theorem ok_firsts (T : Txt K mg) : L2.Cl P w K mg base 1 "_law_firsts" ["_law_numbers"] (spFirsts K) := by
  refine Cl.of T.d_law_firsts sc_law_firsts (fun vs H Q E h => ?_) (fun _ _ _ _ _ _ us hl => by obtain ⟨a, rfl⟩ := len1 hl; rfl) (fun f cdv A outer s H vs Q E hr h => ?_)
  · obtain ⟨a, xs, rfl, _⟩ := h
    rfl
  · obtain ⟨a, xs, rfl, ha, hx9, q⟩ := h
    refine ⟨_, (pss_cons (ps_set (i := 1) sc_law_firsts.nd rfl (Or.inl rfl) (pe_lst pa_nil))
      (pss_cons (ps_for PassesOwn.never rfl (pi_or (pi_tup (pv 0)) (pi_list (pv 0))) (pg_name (i := 2) sc_law_firsts.nd rfl (Or.inl rfl))
        (pss_one (ps_if (pt_cmpR op_notIn_seq (pv 2) (pv 1) (by with_unfolding_all rfl))
          (pss_one (ps_expr (pe_bm PySem.F.plainAttrs_list PySem.F.slot_list_append PySem.F.type_list_append mt_append (pv 1) (pa_cons (pv 2) pa_nil)))) pss_nil)))
      (pss_one (ps_ret (pv 1))))), ?_⟩
    refine ⟨(by show 0 ≤ sizeLine; decide), fun F gF => ?_⟩
    have s1 : Same H (upd H F (.lst [])) := (Same.refl H).new gF
    have hF1 : upd H F (.lst []) F = some (.lst ((firsts (xs.take 0)).map V.int)) := upd_same
    generalize upd H F (.lst []) = H1 at s1 hF1 ⊢
    rcases ha with ha | ha
    · refine .inl ⟨_, rfl, a, rfl, ⟨_, SqT.of (s1 _ _ ha)⟩, ?_⟩
      refine for_tup (K := K) (a := a) (xs := xs.map V.int) (fun i σ H2 => ∃ v2 : Option V, σ = [some (.ref a), some (.ref F), v2] ∧ Same H H2 ∧ H2 F = some (.lst ((firsts (xs.take i)).map V.int))) ⟨none, rfl, s1, hF1⟩ (fun i σ H2 _ ⟨_, _, s2, _⟩ => SqT.of (s2 _ _ ha)) ?_ ?_
      · rintro i x σ H2 hx ⟨v2, rfl, s2, hF2⟩
        rw [List.getElem?_map] at hx
        obtain ⟨y, hy, rfl⟩ := Option.map_eq_some_iff.mp hx
        have hi : i < xs.length := (List.getElem?_eq_some_iff.mp hy).1
        have hfl := firsts_len xs i
        refine ⟨_, rfl, _, rfl, F, _, rfl, .inl (SqL.of hF2), rfl, ints_flat _, _, rfl, ?_⟩
        rw [inV_ints]
        by_cases hin : y ∈ firsts (xs.take i)
        · rw [decide_eq_true hin]
          refine iteF ⟨_, rfl, s2, ?_⟩
          rw [take_succ_get hy, firsts_snoc, if_pos hin]
          exact hF2
        · rw [decide_eq_false hin]
          refine iteT ⟨_, rfl, .inl ⟨rfl, _, SqL.of hF2⟩, _, rfl, F, _, _, rfl, rfl, hF2, small1000 (by rw [List.length_map]; omega), _, rfl, s2.put gF, ?_⟩
          rw [upd_same, take_succ_get hy, firsts_snoc, if_neg hin, List.map_append]
          rfl
      · rintro σ H2 ⟨v2, rfl, s2, hF2⟩
        rw [List.length_map, List.take_length] at hF2
        exact ⟨_, rfl, q F H2 s2 hF2⟩
    · refine .inr ⟨_, rfl, a, rfl, ⟨_, SqL.of (s1 _ _ ha)⟩, ?_⟩
      refine for_list (K := K) (a := a) (xs := xs.map V.int) (fun i σ H2 => ∃ v2 : Option V, σ = [some (.ref a), some (.ref F), v2] ∧ Same H H2 ∧ H2 F = some (.lst ((firsts (xs.take i)).map V.int))) ⟨none, rfl, s1, hF1⟩ (fun i σ H2 _ ⟨_, _, s2, _⟩ => SqL.of (s2 _ _ ha)) ?_ ?_
      · rintro i x σ H2 hx ⟨v2, rfl, s2, hF2⟩
        rw [List.getElem?_map] at hx
        obtain ⟨y, hy, rfl⟩ := Option.map_eq_some_iff.mp hx
        have hi : i < xs.length := (List.getElem?_eq_some_iff.mp hy).1
        have hfl := firsts_len xs i
        refine ⟨_, rfl, _, rfl, F, _, rfl, .inl (SqL.of hF2), rfl, ints_flat _, _, rfl, ?_⟩
        rw [inV_ints]
        by_cases hin : y ∈ firsts (xs.take i)
        · rw [decide_eq_true hin]
          refine iteF ⟨_, rfl, s2, ?_⟩
          rw [take_succ_get hy, firsts_snoc, if_pos hin]
          exact hF2
        · rw [decide_eq_false hin]
          refine iteT ⟨_, rfl, .inl ⟨rfl, _, SqL.of hF2⟩, _, rfl, F, _, _, rfl, rfl, hF2, small1000 (by rw [List.length_map]; omega), _, rfl, s2.put gF, ?_⟩
          rw [upd_same, take_succ_get hy, firsts_snoc, if_neg hin, List.map_append]
          rfl
      · rintro σ H2 ⟨v2, rfl, s2, hF2⟩
        rw [List.length_map, List.take_length] at hF2
        exact ⟨_, rfl, q F H2 s2 hF2⟩
noncomputable def spAheadL : Sp := fun vs H Q _ => ∃ (nl bl t : Addr) (root : Str) (ns : List Str) (bs : List (List Rk)) (pk : List (List Ro)) (lds : List (Str × List Int)), vs = [.ref nl, .ref bl, .ref t, .str root] ∧ H nl = some (.lst (ns.map V.str)) ∧ BksAt ns H bl bs ∧ ns.Nodup ∧ ns.length ≤ 12 ∧ root ∈ ns ∧ MdAt ns bs H t pk lds ∧
  ∀ (l : Addr) (p : Str → Bool) (H' : Hp), Same H H' → (∀ n, p n = true ↔ Rch (Ed ["ask", "do"] ns bs) [root] n) → H' l = some (.lst ((firsts (aheadL p lds)).map V.int)) → Q (.ref l) H'
theorem ok_aheadL (T : Txt K mg) : L2.Cl P w K mg base 2 "_law_ahead" ["_law_names_here", "_law_blocks_here", "_law_made_here", "_law_root"] spAheadL := by
  have C_law_there := ok_there (P := P) (w := w) (base := base) T
  have C_law_firsts := ok_firsts (P := P) (w := w) (base := base) T
  refine Cl.of T.d_law_ahead sc_law_ahead (fun vs H Q E h => ?_) (fun _ _ _ _ _ _ us hl => by obtain ⟨a, b, c, d, rfl⟩ := len4 hl; rfl) (fun f cdv A outer s H vs Q E hr h => ?_)
  · obtain ⟨nl, bl, t, root, ns, bs, pk, lds, rfl, _⟩ := h
    rfl
  · obtain ⟨nl, bl, t, root, ns, bs, pk, lds, rfl, hnl, hbk, hnd, hn12, hroot, md, q⟩ := h
    obtain ⟨pa, oa, l, us, ws, ob, ht, hp, hus, hl, hob, hws⟩ := md.ex
    refine ⟨_, (@pss_cons _ _ _ _ _ (@ps_set _ _ (4) _ _ _ _ sc_law_ahead.nd rfl (Or.inl rfl) (@pe_fn _ _ _ _ _ _ _ _ _ _ _ C_law_there hr (by rfl) (@pa_cons _ _ _ _ _ (@pv _ 0 _ _ (by rfl) (by first   | exact Or.inl rfl   | exact Or.inr (Or.inl rfl)   | exact Or.inr (Or.inr rfl)) (by decide) (by decide)) (@pa_cons _ _ _ _ _ (@pv _ 1 _ _ (by rfl) (by first   | exact Or.inl rfl   | exact Or.inr (Or.inl rfl)   | exact Or.inr (Or.inr rfl)) (by decide) (by decide)) (@pa_cons _ _ _ _ _ (@pv _ 3 _ _ (by rfl) (by first   | exact Or.inl rfl   | exact Or.inr (Or.inl rfl)   | exact Or.inr (Or.inr rfl)) (by decide) (by decide)) (@pa_cons _ _ _ _ _ (@pe_tup _ _ _ _ _ (@pa_cons _ _ _ _ _ (@pe_str _ _ _ _) (@pa_cons _ _ _ _ _ (@pe_str _ _ _ _) (@pa_nil _) (by rfl)) (by rfl))) (@pa_nil _) (by rfl)) (by rfl)) (by rfl)) (by rfl)) (by decide) (by decide) (by rfl) (by rfl)) (by rfl) (by first   | exact .inl rfl   | exact .inr rfl   | assumption)) (@pss_cons _ _ _ _ _ (@ps_set _ _ (5) _ _ _ _ sc_law_ahead.nd rfl (Or.inl rfl) (@pe_lst _ _ _ _ (@pa_nil _)) (by rfl) (by first   | exact .inl rfl   | exact .inr rfl   | assumption)) (@pss_cons _ _ _ _ _ (@ps_for _ _ _ _ _ _ _ _ PassesOwn.never rfl (@pi_tup _ _ _ _ (@pe_ix _ _ _ _ _ _ _ (@ix_tup _) (@pv _ 2 _ _ (by rfl) (by first   | exact Or.inl rfl   | exact Or.inr (Or.inl rfl)   | exact Or.inr (Or.inr rfl)) (by decide) (by decide)) (@pe_int _ _ _ _) (fun _ _ => rfl))) (@pg_tup _ _ _ _ _ _ rfl (@pgs_cons _ _ _ _ _ (@pg_name _ _ (6) _ sc_law_ahead.nd rfl (Or.inl rfl) (by first   | exact .inl rfl   | exact .inr rfl   | assumption)) (@pgs_cons _ _ _ _ _ (@pg_name _ _ (7) _ sc_law_ahead.nd rfl (Or.inl rfl) (by first   | exact .inl rfl   | exact .inr rfl   | assumption)) (@pgs_nil _) (by rfl)) (by rfl)) (by rfl) (by rfl)) (@pss_one _ _ _ (@ps_if _ _ _ _ _ _ _ _ (@pt_cmpR _ _ _ _ _ _ _ _ (@op_in_seq _) (@pv _ 6 _ _ (by rfl) (by first   | exact Or.inl rfl   | exact Or.inr (Or.inl rfl)   | exact Or.inr (Or.inr rfl)) (by decide) (by decide)) (@pv _ 4 _ _ (by rfl) (by first   | exact Or.inl rfl   | exact Or.inr (Or.inl rfl)   | exact Or.inr (Or.inr rfl)) (by decide) (by decide)) (by with_unfolding_all rfl)) (@pss_one _ _ _ (@ps_set _ _ (5) _ _ _ _ sc_law_ahead.nd rfl (Or.inl rfl) (@pe_op _ _ _ _ _ _ _ _ (@op_cat _) (@pv _ 5 _ _ (by rfl) (by first   | exact Or.inl rfl   | exact Or.inr (Or.inl rfl)   | exact Or.inr (Or.inr rfl)) (by decide) (by decide)) (@pe_callTy _ _ _ _ _ _ _ _ _ (@call_list_of _) (by rfl) T.n_list boot_list (@pa_cons _ _ _ _ _ (@pv _ 7 _ _ (by rfl) (by first   | exact Or.inl rfl   | exact Or.inr (Or.inl rfl)   | exact Or.inr (Or.inr rfl)) (by decide) (by decide)) (@pa_nil _) (by rfl)) (by decide) (by decide) (by rfl) (by rfl))) (by rfl) (by first   | exact .inl rfl   | exact .inr rfl   | assumption))) (@pss_nil _))) (by intro _; rfl)) (@pss_one _ _ _ (@ps_ret _ _ _ _ (@pe_fn _ _ _ _ _ _ _ _ _ _ _ C_law_firsts hr (by rfl) (@pa_cons _ _ _ _ _ (@pv _ 5 _ _ (by rfl) (by first   | exact Or.inl rfl   | exact Or.inr (Or.inl rfl)   | exact Or.inr (Or.inr rfl)) (by decide) (by decide)) (@pa_nil _) (by rfl)) (by decide) (by decide) (by rfl) (by rfl))))))), ?_⟩
    refine ⟨_, rfl, _, rfl, _, rfl, (by show 2 ≤ sizeLine; decide), fun wt gwt => ?_⟩
    have s1 : Same H (upd H wt (.tup [.str "ask", .str "do"])) := (Same.refl H).new gwt
    refine ⟨nl, bl, wt, root, ns, ["ask", "do"], bs, rfl, s1 _ _ hnl, hbk.same s1, hnd, hn12, hroot, upd_same, fun w hw => ?_, fun tl L H2 s2 _ htl hLn hLN hL => ?_⟩
    · rcases List.mem_cons.mp hw with z | z
      · exact .inr z
      · exact .inl (List.mem_singleton.mp z)
    have s12 := s1.trans s2
    refine ⟨(by show 0 ≤ sizeLine; decide), fun F0 gF0 => ?_⟩
    have s3 : Same H2 (upd H2 F0 (.lst [])) := (Same.refl H2).new gF0
    have hF0 : upd H2 F0 (.lst []) F0 = some (.lst ((aheadL (fun n => decide (n ∈ L)) (lds.take 0)).map V.int)) := upd_same
    generalize upd H2 F0 (.lst []) = H3 at s3 hF0 ⊢
    have s13 := s12.trans s3
    have hlq := Paired.length hws
    refine ⟨_, rfl, t, _, _, _, rfl, rfl, SqT.of (s13 _ _ ht), atI_nat (j := 2) rfl, l, rfl, ⟨_, .inl (.inr ⟨ob, s13 _ _ hl⟩)⟩, ?_⟩
    refine for_tup (K := K) (a := l) (xs := ws) (fun i σ H4 => ∃ (F : Addr) (v6 v7 : Option V), σ = [some (.ref nl), some (.ref bl), some (.ref t), some (.str root), some (.ref tl), some (.ref F), v6, v7] ∧ Same H3 H4 ∧ H4 F = some (.lst ((aheadL (fun n => decide (n ∈ L)) (lds.take i)).map V.int))) ⟨F0, none, none, rfl, Same.refl H3, hF0⟩ (fun i σ H4 _ ⟨_, _, _, _, s4, _⟩ => .inl (.inr ⟨ob, s4 _ _ (s13 _ _ hl)⟩)) ?_ ?_
    · rintro i x σ H4 hx ⟨F, v6, v7, rfl, s4, hF4⟩
      obtain ⟨⟨n, xs⟩, hld, t', u, rfl, ht', hu'⟩ := Paired.get? hws hx
      dsimp only at ht' hu'
      have ht5 := s4 _ _ (s13 _ _ ht')
      have hu5 := s4 _ _ (s13 _ _ hu')
      have hxl : xs.length ≤ 12 := (md.ln _ (List.mem_of_getElem? hld)).2
      have hal := aheadL_len (p := fun n => decide (n ∈ L)) (lds := lds.take i) fun q hq => (md.ln q (List.mem_of_mem_take hq)).2
      rw [List.length_take] at hal
      have hll := md.ll
      refine ⟨t', _, rfl, SqT.of ht5, rfl, _, _, rfl, _, _, rfl, rfl, ?_⟩
      refine ⟨_, rfl, _, rfl, tl, _, rfl, .inl (SqL.of (s4 _ _ (s3 _ _ htl))), rfl, strs_flat _, _, rfl, ?_⟩
      rw [inV_strs, take_succ_get hld, aheadL_snoc]
      by_cases hin : n ∈ L
      · rw [decide_eq_true hin]
        refine iteT ?_
        refine ⟨_, rfl, _, rfl, u, _, rfl, .inr (SqT.of hu5), fun z gz => ?_⟩
        have s5 : Same H4 (upd H4 z (.lst (xs.map V.int))) := (Same.refl H4).new gz
        refine ⟨F, z, _, _, rfl, rfl, s5 _ _ hF4, upd_same, (by rw [List.length_map, List.length_map]; exact Nat.le_of_lt (small1000 (by omega))), fun F' gF' => ?_⟩
        refine ⟨F', _, _, rfl, (s4.trans s5).new gF', ?_⟩
        rw [upd_same, List.map_append]
        simp [hin]
      · rw [decide_eq_false hin]
        refine iteF ⟨F, _, _, rfl, s4, ?_⟩
        simp only [hin, decide_false, Bool.false_eq_true, if_false, List.append_nil]
        exact hF4
    · rintro σ H4 ⟨F, v6, v7, rfl, s4, hF4⟩
      rw [hlq, List.take_length] at hF4
      have hal := aheadL_len (p := fun n => decide (n ∈ L)) (lds := lds) fun q hq => (md.ln q hq).2
      have hll := md.ll
      refine ⟨_, rfl, F, _, rfl, .inr hF4, by omega, fun l' H5 s5 hl' => q l' (fun n => decide (n ∈ L)) H5 (s13.trans (s4.trans s5)) (fun n => ?_) hl'⟩
      rw [decide_eq_true_eq]
      exact hL n
noncomputable def spRowsL : Sp := fun vs H Q _ => ∃ (nl t : Addr) (n : Str) (ns : List Str) (bs : List (List Rk)) (pk : List (List Ro)) (lds : List (Str × List Int)), vs = [.ref nl, .ref t, .str n] ∧ MdAt ns bs H t pk lds ∧
  ∀ (t' : Addr) (vs : List V) (H' : Hp), Same H H' → H' t' = some (.tup vs) → Paired (TrAt H') vs ((tags 0 pk).filter fun x => decide (x.1 = n)) → Q (.ref t') H'
theorem ok_rowsL (T : Txt K mg) : L2.Cl P w K mg base 1 "_law_rows" ["_law_names_here", "_law_made_here", "_law_part"] spRowsL := by
  refine Cl.of T.d_law_rows sc_law_rows (fun vs H Q E h => ?_) (fun _ _ _ _ _ _ us hl => by obtain ⟨a, b, c, rfl⟩ := len3 hl; rfl) (fun f cdv A outer s H vs Q E hr h => ?_)
  · obtain ⟨nl, t, n, ns, bs, pk, lds, rfl, _⟩ := h
    rfl
  · obtain ⟨nl, t, n, ns, bs, pk, lds, rfl, md, q⟩ := h
    obtain ⟨pa, oa, l, us, ws, ob, ht, hp, hus, hl, hob, hws⟩ := md.ex
    have hsz : sizeLine = 16777216 := sizeLine_eq
    refine ⟨_, (@pss_cons _ _ _ _ _ (@ps_set _ _ (3) _ _ _ _ sc_law_rows.nd rfl (Or.inl rfl) (@pe_lst _ _ _ _ (@pa_nil _)) (by rfl) (by first   | exact .inl rfl   | exact .inr rfl   | assumption)) (@pss_cons _ _ _ _ _ (@ps_for _ _ _ _ _ _ _ _ PassesOwn.never rfl (@pi_range1 _ _ _ _ _ _ (by rfl) T.n_range (@pa_cons _ _ _ _ _ (@pe_callB _ _ _ _ _ _ _ _ _ (@call_len_seq _) (by rfl) T.n_len PySem.boot_len (@pa_cons _ _ _ _ _ (@pe_ix _ _ _ _ _ _ _ (@ix_tup _) (@pv _ 1 _ _ (by rfl) (by first   | exact Or.inl rfl   | exact Or.inr (Or.inl rfl)   | exact Or.inr (Or.inr rfl)) (by decide) (by decide)) (@pe_int _ _ _ _) (fun _ _ => rfl)) (@pa_nil _) (by rfl)) (by decide) (by decide) (by rfl) (by rfl)) (@pa_nil _) (by rfl)) (by rfl)) (@pg_name _ _ (4) _ sc_law_rows.nd rfl (Or.inl rfl) (by first   | exact .inl rfl   | exact .inr rfl   | assumption)) (@pss_cons _ _ _ _ _ (@ps_set _ _ (5) _ _ _ _ sc_law_rows.nd rfl (Or.inl rfl) (@pe_str _ _ _ _) (by rfl) (by first   | exact .inl rfl   | exact .inr rfl   | assumption)) (@pss_one _ _ _ (@ps_for _ _ _ _ _ _ _ _ PassesOwn.never rfl (@pi_range1 _ _ _ _ _ _ (by rfl) T.n_range (@pa_cons _ _ _ _ _ (@pe_callB _ _ _ _ _ _ _ _ _ (@call_len_seq _) (by rfl) T.n_len PySem.boot_len (@pa_cons _ _ _ _ _ (@pe_ix _ _ _ _ _ _ _ (@ix_tup _) (@pe_ix _ _ _ _ _ _ _ (@ix_tup _) (@pv _ 1 _ _ (by rfl) (by first   | exact Or.inl rfl   | exact Or.inr (Or.inl rfl)   | exact Or.inr (Or.inr rfl)) (by decide) (by decide)) (@pe_int _ _ _ _) (fun _ _ => rfl)) (@pv _ 4 _ _ (by rfl) (by first   | exact Or.inl rfl   | exact Or.inr (Or.inl rfl)   | exact Or.inr (Or.inr rfl)) (by decide) (by decide)) (fun _ _ => rfl)) (@pa_nil _) (by rfl)) (by decide) (by decide) (by rfl) (by rfl)) (@pa_nil _) (by rfl)) (by rfl)) (@pg_name _ _ (6) _ sc_law_rows.nd rfl (Or.inl rfl) (by first   | exact .inl rfl   | exact .inr rfl   | assumption)) (@pss_cons _ _ _ _ _ (@ps_set _ _ (7) _ _ _ _ sc_law_rows.nd rfl (Or.inl rfl) (@pe_ix _ _ _ _ _ _ _ (@ix_tup _) (@pe_ix _ _ _ _ _ _ _ (@ix_tup _) (@pe_ix _ _ _ _ _ _ _ (@ix_tup _) (@pv _ 1 _ _ (by rfl) (by first   | exact Or.inl rfl   | exact Or.inr (Or.inl rfl)   | exact Or.inr (Or.inr rfl)) (by decide) (by decide)) (@pe_int _ _ _ _) (fun _ _ => rfl)) (@pv _ 4 _ _ (by rfl) (by first   | exact Or.inl rfl   | exact Or.inr (Or.inl rfl)   | exact Or.inr (Or.inr rfl)) (by decide) (by decide)) (fun _ _ => rfl)) (@pv _ 6 _ _ (by rfl) (by first   | exact Or.inl rfl   | exact Or.inr (Or.inl rfl)   | exact Or.inr (Or.inr rfl)) (by decide) (by decide)) (fun _ _ => rfl)) (by rfl) (by first   | exact .inl rfl   | exact .inr rfl   | assumption)) (@pss_one _ _ _ (@ps_if _ _ _ _ _ _ _ _ (@pt_cmpR _ _ _ _ _ _ _ _ (@op_eq _) (@pe_ix _ _ _ _ _ _ _ (@ix_tup _) (@pv _ 7 _ _ (by rfl) (by first   | exact Or.inl rfl   | exact Or.inr (Or.inl rfl)   | exact Or.inr (Or.inr rfl)) (by decide) (by decide)) (@pe_int _ _ _ _) (fun _ _ => rfl)) (@pe_str _ _ _ _) (nomark _)) (@pss_one _ _ _ (@ps_set _ _ (5) _ _ _ _ sc_law_rows.nd rfl (Or.inl rfl) (@pe_ix _ _ _ _ _ _ _ (@ix_tup _) (@pv _ 7 _ _ (by rfl) (by first   | exact Or.inl rfl   | exact Or.inr (Or.inl rfl)   | exact Or.inr (Or.inr rfl)) (by decide) (by decide)) (@pe_int _ _ _ _) (fun _ _ => rfl)) (by rfl) (by first   | exact .inl rfl   | exact .inr rfl   | assumption))) (@pss_one _ _ _ (@ps_if _ _ _ _ _ _ _ _ (@pt_cmpR _ _ _ _ _ _ _ _ (@op_eq _) (@pv _ 5 _ _ (by rfl) (by first   | exact Or.inl rfl   | exact Or.inr (Or.inl rfl)   | exact Or.inr (Or.inr rfl)) (by decide) (by decide)) (@pv _ 2 _ _ (by rfl) (by first   | exact Or.inl rfl   | exact Or.inr (Or.inl rfl)   | exact Or.inr (Or.inr rfl)) (by decide) (by decide)) (nomark _)) (@pss_one _ _ _ (@ps_expr _ _ _ _ (@pe_bm _ _ _ _ _ _ _ _ _ _ _ _ PySem.F.plainAttrs_list PySem.F.slot_list_append PySem.F.type_list_append (@mt_append _) (@pv _ 3 _ _ (by rfl) (by first   | exact Or.inl rfl   | exact Or.inr (Or.inl rfl)   | exact Or.inr (Or.inr rfl)) (by decide) (by decide)) (@pa_cons _ _ _ _ _ (@pe_tup _ _ _ _ _ (@pa_cons _ _ _ _ _ (@pv _ 4 _ _ (by rfl) (by first   | exact Or.inl rfl   | exact Or.inr (Or.inl rfl)   | exact Or.inr (Or.inr rfl)) (by decide) (by decide)) (@pa_cons _ _ _ _ _ (@pv _ 6 _ _ (by rfl) (by first   | exact Or.inl rfl   | exact Or.inr (Or.inl rfl)   | exact Or.inr (Or.inr rfl)) (by decide) (by decide)) (@pa_cons _ _ _ _ _ (@pv _ 7 _ _ (by rfl) (by first   | exact Or.inl rfl   | exact Or.inr (Or.inl rfl)   | exact Or.inr (Or.inr rfl)) (by decide) (by decide)) (@pa_nil _) (by rfl)) (by rfl)) (by rfl))) (@pa_nil _) (by rfl)) (by rfl) (by rfl) (by rfl) (by rfl) (by rfl)) (by rfl))) (@pss_nil _)))))) (by intro _; rfl)))) (by intro _; rfl)) (@pss_one _ _ _ (@ps_ret _ _ _ _ (@pe_callTy _ _ _ _ _ _ _ _ _ (@call_tuple_of _) (by rfl) T.n_tuple boot_tuple (@pa_cons _ _ _ _ _ (@pv _ 3 _ _ (by rfl) (by first   | exact Or.inl rfl   | exact Or.inr (Or.inl rfl)   | exact Or.inr (Or.inr rfl)) (by decide) (by decide)) (@pa_nil _) (by rfl)) (by decide) (by decide) (by rfl) (by rfl)))))), ?_⟩
    refine ⟨(by show 0 ≤ sizeLine; decide), fun F gF => ?_⟩
    have s1 : Same H (upd H F (.lst [])) := (Same.refl H).new gF
    have hF1 : upd H F (.lst []) F = some (.lst []) := upd_same
    generalize upd H F (.lst []) = H1 at s1 hF1 ⊢
    have hul := Paired.length hus
    have hpl := md.pl
    have hat0 : atI [V.ref pa, V.ref oa, V.ref l] 0 = some (.ref pa) := atI_nat (j := 0) rfl
    refine ⟨_, rfl, t, _, _, _, rfl, rfl, SqT.of (s1 _ _ ht), hat0, pa, _, rfl, .inr (SqT.of (s1 _ _ hp)), _, rfl, (by omega), (by omega), ?_⟩
    refine for_range (n := us.length) (fun i σ H2 => ∃ (fs : List V) (v4 v5 v6 v7 : Option V), σ = [some (.ref nl), some (.ref t), some (.str n), some (.ref F), v4, v5, v6, v7] ∧ Same H H2 ∧ H2 F = some (.lst fs) ∧ Paired (TrAt H2) fs ((tags 0 (pk.take i)).filter fun x => decide (x.1 = n))) ⟨[], none, none, none, none, rfl, s1, hF1, .nil⟩ ?_ ?_
    · rintro i σ H2 hi ⟨fs, v4, v5, v6, v7, rfl, s2, hF2, hfs⟩
      have e1 : (0 : Int) + (i : Int) = ((i : Nat) : Int) := by omega
      have hui : us[i]? = some us[i] := List.getElem?_eq_getElem hi
      obtain ⟨P, hP, u, vs, eu, hu0, hvs0⟩ := Paired.get? hus hui
      have au : atI us (0 + (i : Int)) = some (.ref u) := by rw [e1, ← eu]; exact atI_nat hui
      have hPl := md.rl P (List.mem_of_getElem? hP)
      have hvl : vs.length = P.length := Paired.length hvs0
      refine ⟨_, rfl, t, _, _, _, rfl, rfl, SqT.of (s2 _ _ ht), hat0, _, rfl, pa, _, _, _, rfl, rfl, SqT.of (s2 _ _ hp), au, u, _, rfl, .inr (SqT.of (s2 _ _ hu0)), _, rfl, (by omega), (by omega), ?_⟩
      refine for_range (n := vs.length) (fun j σ H3 => ∃ (fs : List V) (v6 v7 : Option V), σ = [some (.ref nl), some (.ref t), some (.str n), some (.ref F), some (.int (0 + (i : Int))), some (.str (cur "" (P.take j))), v6, v7] ∧ Same H H3 ∧ H3 F = some (.lst fs) ∧ Paired (TrAt H3) fs ((tags 0 (pk.take i) ++ (tag "" 0 (P.take j)).map fun x => (x.1, i, x.2.1, x.2.2)).filter fun x => decide (x.1 = n))) ⟨fs, _, _, rfl, s2, hF2, by simpa [tag] using hfs⟩ ?_ ?_
      · rintro j σ H3 hj ⟨fs3, w6, w7, rfl, s3, hF3, hfs3⟩
        have e2 : (0 : Int) + (j : Int) = ((j : Nat) : Int) := by omega
        have hvj : vs[j]? = some vs[j] := List.getElem?_eq_getElem hj
        obtain ⟨o, ho, hro0⟩ := Paired.get? hvs0 hvj
        generalize vs[j] = y at hvj hro0
        have ay : atI vs (0 + (j : Int)) = some y := by rw [e2]; exact atI_nat hvj
        have etk := take_succ_get ho
        refine ⟨_, rfl, t, _, _, _, rfl, rfl, SqT.of (s3 _ _ ht), hat0, _, rfl, pa, _, _, _, rfl, rfl, SqT.of (s3 _ _ hp), au, _, rfl, u, _, _, _, rfl, rfl, SqT.of (s3 _ _ hu0), ay, ?_⟩
        have hro := hro0.mono s3.tups
        cases o with
        | part m =>
          obtain ⟨a, rfl, ha⟩ := hro
          have z0 : atI [V.str "part", V.str m] 0 = some (.str "part") := atI_nat (j := 0) rfl
          have z1 : atI [V.str "part", V.str m] 1 = some (.str m) := atI_nat (j := 1) rfl
          refine ⟨_, rfl, a, _, _, _, rfl, rfl, SqT.of ha, z0, rfl, _, rfl, iteSE ?_⟩
          have ec : cur "" (P.take (j + 1)) = m := by rw [etk, cur_append]; rfl
          have et : tag "" 0 (P.take (j + 1)) = tag "" 0 (P.take j) := by rw [etk, tag_append]; simp [tag]
          refine ⟨_, rfl, a, _, _, _, rfl, rfl, SqT.of ha, z1, fs3, some (.int (0 + (j : Int))), some (.ref a), (by rw [ec]; rfl), s3, hF3, by rw [et]; exact hfs3⟩
        | row r =>
          obtain ⟨rfl, y1, tl, hrt, hkp, hto⟩ := hro
          have z0 : atI (V.str r.k :: y1 :: tl) 0 = some (.str r.k) := atI_nat (j := 0) rfl
          have ec : cur "" (P.take (j + 1)) = cur "" (P.take j) := by rw [etk, cur_append]; rfl
          have et : tag "" 0 (P.take (j + 1)) = tag "" 0 (P.take j) ++ [(cur "" (P.take j), j, r)] := by
            rw [etk, tag_append]
            simp only [tag]
            rw [List.length_take, Nat.min_eq_left (by omega), Nat.zero_add]
          refine ⟨_, rfl, r.a, _, _, _, rfl, rfl, SqT.of hrt, z0, rfl, _, rfl, iteSN hkp ?_⟩
          generalize cur "" (P.take j) = cn at ec et
          refine ⟨_, rfl, _, rfl, rfl, _, rfl, ?_⟩
          by_cases hcn : cn = n
          · subst hcn
            refine iteSE ?_
            refine ⟨_, rfl, .inl ⟨rfl, _, SqL.of hF3⟩, _, rfl, _, rfl, _, rfl, (by show 3 ≤ sizeLine; decide), fun tt gtt => ?_⟩
            have hF4 := upd_keep (o := .tup [.int (0 + (i : Int)), .int (0 + (j : Int)), .ref r.a]) hF3 gtt
            have s3t : Same H3 (upd H3 tt (.tup [.int (0 + (i : Int)), .int (0 + (j : Int)), .ref r.a])) := (Same.refl H3).new gtt
            have T4 := Tups.lst (ys := fs3 ++ [.ref tt]) hF4
            refine ⟨F, _, _, rfl, rfl, hF4, ?_, fs3 ++ [.ref tt], some (.int (0 + (j : Int))), some (.ref r.a), ?_, (s3.new gtt).put gF, upd_same, ?_⟩
            · have h1 := Paired.length hfs3
              have h2 := List.length_filter_le (fun x : Str × Nat × Nat × Rk => decide (x.1 = cn)) (tags 0 (pk.take i) ++ (tag "" 0 (P.take j)).map fun x => (x.1, i, x.2.1, x.2.2))
              have h3 := tags_len (pk.take i) 0 fun Q hQ => md.rl Q (List.mem_of_mem_take hQ)
              have h4 := tag_len (P.take j) "" 0
              rw [List.length_append, List.length_map] at h2
              rw [List.length_take] at h3 h4
              omega
            · rw [ec]; rfl
            · rw [et, List.map_append, ← List.append_assoc, List.filter_append]
              have ef : List.filter (fun x : Str × Nat × Nat × Rk => decide (x.1 = cn)) (List.map (fun x : Str × Nat × Rk => (x.1, i, x.2.1, x.2.2)) [(cn, j, r)]) = [(cn, i, j, r)] := by simp
              rw [ef]
              refine Paired.snoc (Paired.mapP hfs3 fun _ _ z => z.mono (s3t.tups.trans T4)) ⟨tt, rfl, T4 _ _ ?_⟩
              rw [upd_same, e1, e2]
          · refine iteSN hcn ?_
            refine ⟨fs3, some (.int (0 + (j : Int))), some (.ref r.a), by rw [ec]; rfl, s3, hF3, ?_⟩
            rw [et, List.map_append, ← List.append_assoc, List.filter_append]
            have ef : List.filter (fun x : Str × Nat × Nat × Rk => decide (x.1 = n)) (List.map (fun x : Str × Nat × Rk => (x.1, i, x.2.1, x.2.2)) [(cn, j, r)]) = [] := by simp [hcn]
            rw [ef, List.append_nil]
            exact hfs3
      · rintro σ H3 ⟨fs3, w6, w7, rfl, s3, hF3, hfs3⟩
        refine ⟨fs3, _, _, _, _, rfl, s3, hF3, ?_⟩
        rw [take_succ_get hP, tags_snoc, List.length_take, Nat.min_eq_left (by omega), Nat.zero_add]
        rw [hvl, List.take_length] at hfs3
        exact hfs3
    · rintro σ H2 ⟨fs, v4, v5, v6, v7, rfl, s2, hF2, hfs⟩
      rw [hul, List.take_length] at hfs
      refine ⟨_, rfl, F, _, rfl, .inl ⟨SqL.of hF2, fun t' gt' => ?_⟩⟩
      have s3 : Same H2 (upd H2 t' (.tup fs)) := (Same.refl H2).new gt'
      exact q t' fs _ (s2.trans s3) upd_same (Paired.mapP hfs fun _ _ z => z.mono s3.tups)
theorem rd_ne' {H : Hp} {d a : Addr} {kvs : List (Key × V)} {o : HO} (hd : Rd H d (.dK kvs)) (h : H a = some o) (h1 : ∀ k, o ≠ .dK k) (h2 : ∀ ob k, o ≠ .frz ob (.dK k)) : a ≠ d := fun z => by
  subst z
  rcases hd with h' | ⟨ob, h'⟩ <;> rw [h'] at h <;> cases h
  · exact h1 _ rfl
  · exact h2 _ _ rfl
theorem MdAt.but {ns : List Str} {bs : List (List Rk)} {H H' : Hp} {t d : Addr} {pk : List (List Ro)} {lds : List (Str × List Int)} {kvs : List (Key × V)} (m : MdAt ns bs H t pk lds) (hd : Rd H d (.dK kvs)) (s : But d H H') : MdAt ns bs H' t pk lds := by
  obtain ⟨p, o, l, us, ws, ob, h1, h2, h3, h4, h5, h6⟩ := m.ex
  have T : Tups H H' := fun a xs h => s a _ (rd_ne' hd h (fun _ z => by cases z) (fun _ _ z => by cases z)) h
  exact ⟨⟨p, o, l, us, ws, ob, T _ _ h1, T _ _ h2, Paired.mapP h3 fun _ _ z => z.mono T, s _ _ (rd_ne' hd h4 (fun _ z => by cases z) (fun _ _ z => by cases z)) h4, h5, Paired.mapP h6 fun _ _ z => z.mono T⟩, m.ok, m.pl, m.rl, m.tl, m.ll, m.ln⟩
theorem MdAt.same {ns : List Str} {bs : List (List Rk)} {H H' : Hp} {t : Addr} {pk : List (List Ro)} {lds : List (Str × List Int)} (m : MdAt ns bs H t pk lds) (s : Same H H') : MdAt ns bs H' t pk lds := by
  obtain ⟨p, o, l, us, ws, ob, h1, h2, h3, h4, h5, h6⟩ := m.ex
  exact ⟨⟨p, o, l, us, ws, ob, s _ _ h1, s _ _ h2, Paired.mapP h3 fun _ _ z => z.mono s.tups, s _ _ h4, h5, Paired.mapP h6 fun _ _ z => z.mono s.tups⟩, m.ok, m.pl, m.rl, m.tl, m.ll, m.ln⟩
theorem BksAt.but {ns : List Str} {H H' : Hp} {bl d : Addr} {bs : List (List Rk)} {kvs : List (Key × V)} (h : BksAt ns H bl bs) (hd : Rd H d (.dK kvs)) (s : But d H H') : BksAt ns H' bl bs := by
  obtain ⟨vs, h1, h2, h3⟩ := h
  have T : Tups H H' := fun a xs h => s a _ (rd_ne' hd h (fun _ z => by cases z) (fun _ _ z => by cases z)) h
  have L : ∀ a xs, H a = some (.lst xs) → H' a = some (.lst xs) := fun a xs h => s a _ (rd_ne' hd h (fun _ z => by cases z) (fun _ _ z => by cases z)) h
  refine ⟨vs, L _ _ h1, Paired.mapP h2 fun _ _ z => ?_, h3⟩
  obtain ⟨b, e1, e2, e3⟩ := z
  exact ⟨b, e1, L _ _ e2, fun r hr => (e3 r hr).mono T⟩
theorem Wk.rd {CP : Addr} {ns : List Str} {H : Hp} {w d : Addr} {pk : List (List Ro)} {lds : List (Str × List Int)} {ah : Bool} (h : Wk CP ns H w d pk lds ah) : ∃ kvs, Rd H d (.dK kvs) := by
  obtain ⟨dx, l, qs, h1, h2, h3, h4⟩ := h.ex
  exact ⟨_, h3.hd⟩
theorem Wk.other {CP : Addr} {ns : List Str} {H H' : Hp} {w d e : Addr} {pk : List (List Ro)} {lds : List (Str × List Int)} {ah : Bool} {kvs : List (Key × V)} (h : Wk CP ns H w d pk lds ah) (he : Rd H e (.dK kvs)) (hne : d ≠ e) (s : But e H H') : Wk CP ns H' w d pk lds ah := by
  obtain ⟨dx, l, qs, h1, h2, h3, h4⟩ := h.ex
  have T : Tups H H' := fun a xs h => s a _ (rd_ne' he h (fun _ z => by cases z) (fun _ _ z => by cases z)) h
  have L : ∀ a xs, H a = some (.lst xs) → H' a = some (.lst xs) := fun a xs h => s a _ (rd_ne' he h (fun _ z => by cases z) (fun _ _ z => by cases z)) h
  have hd' : Rd H' d (.dK (bkv qs)) := by
    rcases h3.hd with z | ⟨o, z⟩
    · exact .inl (s _ _ hne z)
    · exact .inr ⟨o, s _ _ hne z⟩
  refine ⟨dx, l, qs, s _ _ (rd_ne' he h1 (fun _ z => by cases z) (fun _ _ z => by cases z)) h1, h2.keep fun a o h ho => s a o (rd_ne he h ho) h, ⟨hd', h3.nd, h3.ql, h3.al, fun n c hc => ?_, fun x hx => (h3.rk x hx).mono T⟩, h4⟩
  obtain ⟨e1, vs, e2, e3⟩ := h3.ls n c hc
  exact ⟨e1, vs, L _ _ e2, Paired.mapP e3 fun _ _ z => z.mono T⟩
theorem tr_eq {K : PySem.W.Frag} {H : Hp} : ∀ {vs us : List V} {xs : List (Str × Nat × Nat × Rk)}, Paired (TrAt H) vs xs → Paired (TrAt H) us xs → Paired (EqI K H 2) vs us
  | _, _, _, .nil, .nil => .nil
  | _, _, _, .cons h1 t1, .cons h2 t2 => by
    refine .cons ?_ (tr_eq t1 t2)
    obtain ⟨t, rfl, a1⟩ := h1
    obtain ⟨u, rfl, a2⟩ := h2
    exact .inr ⟨t, u, _, _, rfl, rfl, SqT.of a1, SqT.of a2, .cons (.inl ⟨rfl, .inl rfl⟩) (.cons (.inl ⟨rfl, .inl rfl⟩) (.cons (.inl ⟨rfl, .inr ⟨_, rfl⟩⟩) .nil))⟩
theorem ints_eq {K : PySem.W.Frag} {H : Hp} : ∀ (xs : List Int), Paired (EqI K H 2) (xs.map V.int) (xs.map V.int)
  | [] => .nil
  | x :: t => .cons (.inl ⟨rfl, .inl rfl⟩) (ints_eq t)
theorem putK_key {κ : Type} [DecidableEq κ] {m : List (κ × V)} {k : κ} {v : V} {kv : κ × V} (h : kv ∈ putK m k v) : (∃ kv' ∈ m, kv'.1 = kv.1) ∨ kv.1 = k := by
  unfold putK at h
  split at h
  · obtain ⟨q, hq, e⟩ := List.mem_map.mp h
    refine .inl ⟨q, hq, ?_⟩
    rw [← e]
    split <;> simp_all
  · rcases List.mem_append.mp h with z | z
    · exact .inl ⟨kv, z, rfl⟩
    · rw [List.mem_singleton.mp z]; exact .inr rfl
theorem keys_sub : ∀ {lp : List (Str × V)} {m : List (Key × V)} {v : V}, v ∈ keysV (foldP lp m) → v ∈ keysV m ∨ ∃ p ∈ lp, v = .str p.1
  | [], m, v, h => .inl h
  | p :: t, m, v, h => by
    rcases keys_sub (lp := t) (m := putK m (Sum.inr p.1) p.2) h with z | ⟨q, hq, e⟩
    · obtain ⟨kv, hkv, rfl⟩ := List.mem_map.mp z
      rcases putK_key hkv with ⟨kv', w, e⟩ | w
      · exact .inl (List.mem_map.mpr ⟨kv', w, by rw [e]⟩)
      · exact .inr ⟨p, List.mem_cons_self, by rw [w]; rfl⟩
    · exact .inr ⟨q, List.mem_cons_of_mem _ hq, e⟩
noncomputable def spRight (CP : Addr) : Sp := fun vs H Q _ => ∃ (w d nl bl t : Addr) (ns : List Str) (bs : List (List Rk)) (pk : List (List Ro)) (lds : List (Str × List Int)) (ah : Bool), vs = [.ref w, .ref nl, .ref bl, .ref t, .bl ah] ∧ Wk CP ns H w d pk lds ah ∧ H nl = some (.lst (ns.map V.str)) ∧ BksAt ns H bl bs ∧ ns.Nodup ∧ ns.length ≤ 12 ∧ (∀ x ∈ ns, x.length ≤ 20) ∧ MdAt ns bs H t pk lds ∧
  ∀ H' : Hp, But d H H' → Q (.bl true) H'
theorem Rch.congr {E F : Str → Str → Prop} {S : List Str} (h : ∀ a b, E a b → F a b) {n : Str} (r : Rch E S n) : Rch F S n := by
  induction r with
  | base h => exact .base h
  | step _ e ih => exact .step ih (h _ _ e)
theorem ok_right (T : Tc K mg CP CW) : L2.Cl P w K mg base 3 "_law_right" ["_law_walk", "_law_names_here", "_law_blocks_here", "_law_made_here", "_law_ahead_here"] (spRight CP) := by
  have C_rows_of := ok_rows_of (P := P) (w := w) (base := base) T
  have C_key_of := ok_key_of (P := P) (w := w) (base := base) T
  have C_loads_of := ok_loads_of (P := P) (w := w) (base := base) T
  have C_ahead_of := ok_ahead_of (P := P) (w := w) (base := base) T
  have C_law_rows := ok_rowsL (P := P) (w := w) (base := base) T.toTxt
  have C_law_ahead := ok_aheadL (P := P) (w := w) (base := base) T.toTxt
  have C_law_firsts := ok_firsts (P := P) (w := w) (base := base) T.toTxt
  refine Cl.of T.d_law_right sc_law_right (fun vs H Q E h => ?_) (fun _ _ _ _ _ _ us hl => match us, hl with | [_, _, _, _, _], _ => rfl) (fun f cdv A outer s H vs Q E hr h => ?_)
  · obtain ⟨w, d, nl, bl, t, ns, bs, pk, lds, ah, rfl, _⟩ := h
    rfl
  · obtain ⟨w, d, nl, bl, t, ns, bs, pk, lds, ah, rfl, wk, hnl, hbk, hnd, hn12, hnle, md, q⟩ := h
    have hu := hu_of hr
    have hu0 := Nat.lt_of_succ_lt hu
    have hu3 := hu3_of hr
    have hsz : sizeLine = 16777216 := sizeLine_eq
    obtain ⟨pa, oa, l, us, ws, ob, ht, hp, hus, hl, hob, hws⟩ := md.ex
    obtain ⟨lp, hlp, hlq⟩ := ld_pairs (K := K) hws
    have hll := md.ll
    have el := Paired.length hlq
    have ewl := Paired.length hlp
    refine ⟨_, (@pss_cons _ _ _ _ _ (@ps_set _ _ (5) _ _ _ _ sc_law_right.nd rfl (Or.inl rfl) (@pe_dnewK _ _) (by rfl) (by first   | exact .inl rfl   | exact .inr rfl   | assumption)) (@pss_cons _ _ _ _ _ (@ps_for _ _ _ _ _ _ _ _ PassesOwn.never rfl (@pi_tup _ _ _ _ (@pe_ix _ _ _ _ _ _ _ (@ix_tup _) (@pv _ 3 _ _ (by rfl) (by first   | exact Or.inl rfl   | exact Or.inr (Or.inl rfl)   | exact Or.inr (Or.inr rfl)) (by decide) (by decide)) (@pe_int _ _ _ _) (fun _ _ => rfl))) (@pg_tup _ _ _ _ _ _ rfl (@pgs_cons _ _ _ _ _ (@pg_name _ _ (6) _ sc_law_right.nd rfl (Or.inl rfl) (by first   | exact .inl rfl   | exact .inr rfl   | assumption)) (@pgs_cons _ _ _ _ _ (@pg_name _ _ (7) _ sc_law_right.nd rfl (Or.inl rfl) (by first   | exact .inl rfl   | exact .inr rfl   | assumption)) (@pgs_nil _) (by rfl)) (by rfl)) (by rfl) (by rfl)) (@pss_one _ _ _ (@ps_dput _ _ _ _ _ _ _ _ _ hu (@pv _ 5 _ _ (by rfl) (by first   | exact Or.inl rfl   | exact Or.inr (Or.inl rfl)   | exact Or.inr (Or.inr rfl)) (by decide) (by decide)) (@pv _ 6 _ _ (by rfl) (by first   | exact Or.inl rfl   | exact Or.inr (Or.inl rfl)   | exact Or.inr (Or.inr rfl)) (by decide) (by decide)) (@pv _ 7 _ _ (by rfl) (by first   | exact Or.inl rfl   | exact Or.inr (Or.inl rfl)   | exact Or.inr (Or.inr rfl)) (by decide) (by decide)) rfl)) (by intro _; rfl)) (@pss_cons _ _ _ _ _ (@ps_for _ _ _ _ _ _ _ _ PassesOwn.never rfl (@pi_list _ _ _ _ (@pv _ 1 _ _ (by rfl) (by first   | exact Or.inl rfl   | exact Or.inr (Or.inl rfl)   | exact Or.inr (Or.inr rfl)) (by decide) (by decide))) (@pg_name _ _ (6) _ sc_law_right.nd rfl (Or.inl rfl) (by first   | exact .inl rfl   | exact .inr rfl   | assumption)) (@pss_cons _ _ _ _ _ (@ps_set _ _ (8) _ _ _ _ sc_law_right.nd rfl (Or.inl rfl) (@pe_m _ _ _ _ _ _ _ _ _ _ _ _ _ _ _ C_rows_of T.c_PacksWalk hr (@pv _ 0 _ _ (by rfl) (by first   | exact Or.inl rfl   | exact Or.inr (Or.inl rfl)   | exact Or.inr (Or.inr rfl)) (by decide) (by decide)) (@pa_cons _ _ _ _ _ (@pv _ 6 _ _ (by rfl) (by first   | exact Or.inl rfl   | exact Or.inr (Or.inl rfl)   | exact Or.inr (Or.inr rfl)) (by decide) (by decide)) (@pa_nil _) (by rfl)) (by decide) (by rfl) (by rfl) (by rfl)) (by rfl) (by first   | exact .inl rfl   | exact .inr rfl   | assumption)) (@pss_cons _ _ _ _ _ (@ps_if _ _ _ _ _ _ _ _ (PW.pt (@pw_or _ _ _ _ _ _ _ (@pt_not _ _ _ _ (@pt_val _ _ _ (@pe_callB _ _ _ _ _ _ _ _ _ (@call_isinst _) (by rfl) T.n_isinstance PyProof.Rows.boot_isinstance (@pa_cons _ _ _ _ _ (@pv _ 8 _ _ (by rfl) (by first   | exact Or.inl rfl   | exact Or.inr (Or.inl rfl)   | exact Or.inr (Or.inr rfl)) (by decide) (by decide)) (@pa_cons _ _ _ _ _ (@pe_bltn _ _ (.ty "tuple") _ _ (by rfl) T.n_tuple boot_tuple rfl (by decide) (by decide)) (@pa_nil _) (by rfl)) (by rfl)) (by decide) (by decide) (by rfl) (by rfl)) (by intro _; rfl))) (@pw_or1 _ _ _ _ (@pt_cmpR _ _ _ _ _ _ _ _ (@op_neI _ 2 hu3) (@pv _ 8 _ _ (by rfl) (by first   | exact Or.inl rfl   | exact Or.inr (Or.inl rfl)   | exact Or.inr (Or.inr rfl)) (by decide) (by decide)) (@pe_fn _ _ _ _ _ _ _ _ _ _ _ C_law_rows hr (by rfl) (@pa_cons _ _ _ _ _ (@pv _ 1 _ _ (by rfl) (by first   | exact Or.inl rfl   | exact Or.inr (Or.inl rfl)   | exact Or.inr (Or.inr rfl)) (by decide) (by decide)) (@pa_cons _ _ _ _ _ (@pv _ 3 _ _ (by rfl) (by first   | exact Or.inl rfl   | exact Or.inr (Or.inl rfl)   | exact Or.inr (Or.inr rfl)) (by decide) (by decide)) (@pa_cons _ _ _ _ _ (@pv _ 6 _ _ (by rfl) (by first   | exact Or.inl rfl   | exact Or.inr (Or.inl rfl)   | exact Or.inr (Or.inr rfl)) (by decide) (by decide)) (@pa_nil _) (by rfl)) (by rfl)) (by rfl)) (by decide) (by decide) (by rfl) (by rfl)) (nomark _))))) (@pss_one _ _ _ (@ps_ret _ _ _ _ (@pe_bl _ _ _ _))) (@pss_nil _)) (@pss_cons _ _ _ _ _ (@ps_if _ _ _ _ _ _ _ _ (@pt_cmpR _ _ _ _ _ _ _ _ (@op_ne _) (@pe_m _ _ _ _ _ _ _ _ _ _ _ _ _ _ _ C_key_of T.c_PacksWalk hr (@pv _ 0 _ _ (by rfl) (by first   | exact Or.inl rfl   | exact Or.inr (Or.inl rfl)   | exact Or.inr (Or.inr rfl)) (by decide) (by decide)) (@pa_cons _ _ _ _ _ (@pv _ 6 _ _ (by rfl) (by first   | exact Or.inl rfl   | exact Or.inr (Or.inl rfl)   | exact Or.inr (Or.inr rfl)) (by decide) (by decide)) (@pa_cons _ _ _ _ _ (@pe_op _ _ _ _ _ _ _ _ (@op_add_str _) (@pe_str _ _ _ _) (@pv _ 6 _ _ (by rfl) (by first   | exact Or.inl rfl   | exact Or.inr (Or.inl rfl)   | exact Or.inr (Or.inr rfl)) (by decide) (by decide))) (@pa_nil _) (by rfl)) (by rfl)) (by decide) (by rfl) (by rfl) (by rfl)) (@pe_op _ _ _ _ _ _ _ _ (@op_add_str _) (@pe_str _ _ _ _) (@pv _ 6 _ _ (by rfl) (by first   | exact Or.inl rfl   | exact Or.inr (Or.inl rfl)   | exact Or.inr (Or.inr rfl)) (by decide) (by decide))) (nomark _)) (@pss_one _ _ _ (@ps_ret _ _ _ _ (@pe_bl _ _ _ _))) (@pss_nil _)) (@pss_cons _ _ _ _ _ (@ps_set _ _ (7) _ _ _ _ sc_law_right.nd rfl (Or.inl rfl) (@pe_m _ _ _ _ _ _ _ _ _ _ _ _ _ _ _ C_loads_of T.c_PacksWalk hr (@pv _ 0 _ _ (by rfl) (by first   | exact Or.inl rfl   | exact Or.inr (Or.inl rfl)   | exact Or.inr (Or.inr rfl)) (by decide) (by decide)) (@pa_cons _ _ _ _ _ (@pv _ 6 _ _ (by rfl) (by first   | exact Or.inl rfl   | exact Or.inr (Or.inl rfl)   | exact Or.inr (Or.inr rfl)) (by decide) (by decide)) (@pa_nil _) (by rfl)) (by decide) (by rfl) (by rfl) (by rfl)) (by rfl) (by first   | exact .inl rfl   | exact .inr rfl   | assumption)) (@pss_one _ _ _ (@ps_if _ _ _ _ _ _ _ _ (PW.pt (@pw_or _ _ _ _ _ _ _ (@pt_not _ _ _ _ (@pt_val _ _ _ (@pe_callB _ _ _ _ _ _ _ _ _ (@call_isinst _) (by rfl) T.n_isinstance PyProof.Rows.boot_isinstance (@pa_cons _ _ _ _ _ (@pv _ 7 _ _ (by rfl) (by first   | exact Or.inl rfl   | exact Or.inr (Or.inl rfl)   | exact Or.inr (Or.inr rfl)) (by decide) (by decide)) (@pa_cons _ _ _ _ _ (@pe_bltn _ _ (.ty "tuple") _ _ (by rfl) T.n_tuple boot_tuple rfl (by decide) (by decide)) (@pa_nil _) (by rfl)) (by rfl)) (by decide) (by decide) (by rfl) (by rfl)) (by intro _; rfl))) (@pw_or1 _ _ _ _ (@pt_cmpR _ _ _ _ _ _ _ _ (@op_neI _ 2 hu3) (@pv _ 7 _ _ (by rfl) (by first   | exact Or.inl rfl   | exact Or.inr (Or.inl rfl)   | exact Or.inr (Or.inr rfl)) (by decide) (by decide)) (@pe_dget2 _ _ _ _ _ _ _ _ _ hu (@pv _ 5 _ _ (by rfl) (by first   | exact Or.inl rfl   | exact Or.inr (Or.inl rfl)   | exact Or.inr (Or.inr rfl)) (by decide) (by decide)) (@pv _ 6 _ _ (by rfl) (by first   | exact Or.inl rfl   | exact Or.inr (Or.inl rfl)   | exact Or.inr (Or.inr rfl)) (by decide) (by decide)) (@pe_tup _ _ _ _ _ (@pa_nil _)) ⟨rfl, rfl, rfl, rfl⟩) (nomark _))))) (@pss_one _ _ _ (@ps_ret _ _ _ _ (@pe_bl _ _ _ _))) (@pss_nil _))))))) (by intro _; rfl)) (@pss_cons _ _ _ _ _ (@ps_for _ _ _ _ _ _ _ _ PassesOwn.never rfl (@pi_dictR _ _ _ _ (@pv _ 5 _ _ (by rfl) (by first   | exact Or.inl rfl   | exact Or.inr (Or.inl rfl)   | exact Or.inr (Or.inr rfl)) (by decide) (by decide))) (@pg_name _ _ (6) _ sc_law_right.nd rfl (Or.inl rfl) (by first   | exact .inl rfl   | exact .inr rfl   | assumption)) (@pss_cons _ _ _ _ _ (@ps_set _ _ (7) _ _ _ _ sc_law_right.nd rfl (Or.inl rfl) (@pe_m _ _ _ _ _ _ _ _ _ _ _ _ _ _ _ C_ahead_of T.c_PacksWalk hr (@pv _ 0 _ _ (by rfl) (by first   | exact Or.inl rfl   | exact Or.inr (Or.inl rfl)   | exact Or.inr (Or.inr rfl)) (by decide) (by decide)) (@pa_cons _ _ _ _ _ (@pv _ 6 _ _ (by rfl) (by first   | exact Or.inl rfl   | exact Or.inr (Or.inl rfl)   | exact Or.inr (Or.inr rfl)) (by decide) (by decide)) (@pa_nil _) (by rfl)) (by decide) (by rfl) (by rfl) (by rfl)) (by rfl) (by first   | exact .inl rfl   | exact .inr rfl   | assumption)) (@pss_cons _ _ _ _ _ (@ps_set _ _ (9) _ _ _ _ sc_law_right.nd rfl (Or.inl rfl) (@pe_lst _ _ _ _ (@pa_nil _)) (by rfl) (by first   | exact .inl rfl   | exact .inr rfl   | assumption)) (@pss_cons _ _ _ _ _ (@ps_if _ _ _ _ _ _ _ _ (@pt_val _ _ _ (@pv _ 4 _ _ (by rfl) (by first   | exact Or.inl rfl   | exact Or.inr (Or.inl rfl)   | exact Or.inr (Or.inr rfl)) (by decide) (by decide)) (by intro _; rfl)) (@pss_one _ _ _ (@ps_set _ _ (9) _ _ _ _ sc_law_right.nd rfl (Or.inl rfl) (@pe_fn _ _ _ _ _ _ _ _ _ _ _ C_law_ahead hr (by rfl) (@pa_cons _ _ _ _ _ (@pv _ 1 _ _ (by rfl) (by first   | exact Or.inl rfl   | exact Or.inr (Or.inl rfl)   | exact Or.inr (Or.inr rfl)) (by decide) (by decide)) (@pa_cons _ _ _ _ _ (@pv _ 2 _ _ (by rfl) (by first   | exact Or.inl rfl   | exact Or.inr (Or.inl rfl)   | exact Or.inr (Or.inr rfl)) (by decide) (by decide)) (@pa_cons _ _ _ _ _ (@pv _ 3 _ _ (by rfl) (by first   | exact Or.inl rfl   | exact Or.inr (Or.inl rfl)   | exact Or.inr (Or.inr rfl)) (by decide) (by decide)) (@pa_cons _ _ _ _ _ (@pv _ 6 _ _ (by rfl) (by first   | exact Or.inl rfl   | exact Or.inr (Or.inl rfl)   | exact Or.inr (Or.inr rfl)) (by decide) (by decide)) (@pa_nil _) (by rfl)) (by rfl)) (by rfl)) (by rfl)) (by decide) (by decide) (by rfl) (by rfl)) (by rfl) (by first   | exact .inl rfl   | exact .inr rfl   | assumption))) (@pss_nil _)) (@pss_one _ _ _ (@ps_if _ _ _ _ _ _ _ _ (PW.pt (@pw_or _ _ _ _ _ _ _ (@pt_not _ _ _ _ (@pt_val _ _ _ (@pe_callB _ _ _ _ _ _ _ _ _ (@call_isinst _) (by rfl) T.n_isinstance PyProof.Rows.boot_isinstance (@pa_cons _ _ _ _ _ (@pv _ 7 _ _ (by rfl) (by first   | exact Or.inl rfl   | exact Or.inr (Or.inl rfl)   | exact Or.inr (Or.inr rfl)) (by decide) (by decide)) (@pa_cons _ _ _ _ _ (@pe_bltn _ _ (.ty "tuple") _ _ (by rfl) T.n_tuple boot_tuple rfl (by decide) (by decide)) (@pa_nil _) (by rfl)) (by rfl)) (by decide) (by decide) (by rfl) (by rfl)) (by intro _; rfl))) (@pw_or1 _ _ _ _ (@pt_cmpR _ _ _ _ _ _ _ _ (@op_neL_same _ hu0) (@pe_fn _ _ _ _ _ _ _ _ _ _ _ C_law_firsts hr (by rfl) (@pa_cons _ _ _ _ _ (@pv _ 7 _ _ (by rfl) (by first   | exact Or.inl rfl   | exact Or.inr (Or.inl rfl)   | exact Or.inr (Or.inr rfl)) (by decide) (by decide)) (@pa_nil _) (by rfl)) (by decide) (by decide) (by rfl) (by rfl)) (@pv _ 9 _ _ (by rfl) (by first   | exact Or.inl rfl   | exact Or.inr (Or.inl rfl)   | exact Or.inr (Or.inr rfl)) (by decide) (by decide)) (nomark _))))) (@pss_one _ _ _ (@ps_ret _ _ _ _ (@pe_bl _ _ _ _))) (@pss_nil _)))))) (by intro _; rfl)) (@pss_one _ _ _ (@ps_ret _ _ _ _ (@pe_bl _ _ _ _))))))), ?_⟩
    intro dw gdw
    have s1 : Same H (upd H dw (.dK [])) := (Same.refl H).new gdw
    have hdw1 : upd H dw (.dK []) dw = some (.dK (foldP (lp.take 0) [])) := upd_same
    generalize upd H dw (.dK []) = H1 at s1 hdw1 ⊢
    have hat2 : atI [V.ref pa, V.ref oa, V.ref l] 2 = some (.ref l) := atI_nat (j := 2) rfl
    refine ⟨_, rfl, t, _, _, _, rfl, rfl, SqT.of (s1 _ _ ht), hat2, l, rfl, ⟨_, .inl (.inr ⟨ob, s1 _ _ hl⟩)⟩, ?_⟩
    refine for_tup (K := K) (a := l) (xs := ws) (fun i σ H2 => ∃ v6 v7 : Option V, σ = [some (.ref w), some (.ref nl), some (.ref bl), some (.ref t), some (.bl ah), some (.ref dw), v6, v7, none, none] ∧ Same H H2 ∧ H2 dw = some (.dK (foldP (lp.take i) []))) ⟨none, none, rfl, s1, hdw1⟩ (fun i σ H2 _ ⟨_, _, _, s2, _⟩ => .inl (.inr ⟨ob, s2 _ _ hl⟩)) ?_ ?_
    · rintro i x σ H2 hx ⟨v6, v7, rfl, s2, hdw2⟩
      obtain ⟨⟨n, v⟩, hpi, t', rfl, ht'⟩ := Paired.get? hlp hx
      have hi : i < ws.length := (List.getElem?_eq_some_iff.mp hx).1
      obtain ⟨⟨n', xs⟩, hld, t2, u, e2, h2, h3⟩ := Paired.get? hws hx
      cases e2
      have ht2 : SqT K H2 t' [.str n, v] := by
        rcases ht' with z | z
        · rcases z with z | ⟨o, z⟩
          · exact SqT.of (s2 _ _ z)
          · rw [h2] at z; cases z
        · exact .inr z
      refine ⟨t', _, rfl, ht2, rfl, _, _, rfl, _, _, rfl, rfl, ?_⟩
      have hfl := foldP_len (lp.take i) []
      rw [List.length_take] at hfl
      refine ⟨_, rfl, _, rfl, _, rfl, dw, _, rfl, DPut.k (k := Sum.inr n) hdw2 (by simp only [List.length_nil] at hfl; omega), ?_⟩
      exact ⟨_, _, rfl, s2.put gdw, by rw [upd_same, take_succ_get hpi, foldP_snoc]⟩
    · rintro σ H2 ⟨v6, v7, rfl, s2, hdw2⟩
      rw [ewl, List.take_length] at hdw2
      have hnl2 := s2 _ _ hnl
      refine ⟨_, rfl, nl, rfl, ⟨_, SqL.of hnl2⟩, ?_⟩
      refine for_list (K := K) (a := nl) (xs := ns.map V.str) (fun i σ H3 => ∃ v6 v7 v8 : Option V, σ = [some (.ref w), some (.ref nl), some (.ref bl), some (.ref t), some (.bl ah), some (.ref dw), v6, v7, v8, none] ∧ Same H2 H3) ⟨_, _, none, rfl, Same.refl H2⟩ (fun i σ H3 _ ⟨_, _, _, _, s3⟩ => SqL.of (s3 _ _ hnl2)) ?_ ?_
      · rintro i x σ H3 hx ⟨v6, v7, v8, rfl, s3⟩
        rw [List.getElem?_map] at hx
        obtain ⟨n, hn, rfl⟩ := Option.map_eq_some_iff.mp hx
        have hnN := List.mem_of_getElem? hn
        have hnl20 := hnle n hnN
        have s03 := s2.trans s3
        have wk3 := wk.same s03
        obtain ⟨dx3, l3, qs3, hw3, _⟩ := wk3.ex
        refine ⟨_, rfl, w, dx3, _, rfl, hw3, wl_m.1, _, rfl, w, d, n, ns, pk, lds, ah, rfl, wk3, md.ok.pt.mem_iff.mpr hnN, fun rt rvs H4 s4 hrt hrvs => ?_⟩
        refine ⟨_, rfl, _, _, _, _, rfl, .tup hrt, kit_same _ _, _, rfl, iteF ?_⟩
        refine ⟨_, rfl, _, rfl, _, rfl, _, rfl, nl, t, n, ns, bs, pk, lds, rfl, md.same (s03.trans s4), fun t' vs' H5 s5 ht' hvs' => ?_⟩
        refine ⟨rt, t', rvs, vs', rfl, rfl, SqT.of (s5 _ _ hrt), SqT.of ht', tr_eq (Paired.mapP hrvs fun _ _ z => z.mono s5.tups) hvs', _, rfl, iteF (to_n ?_)⟩
        have s35 := s4.trans s5
        have wk5 := wk3.same s35
        obtain ⟨dx5, l5, qs5, hw5, _⟩ := wk5.ex
        refine ⟨_, rfl, w, dx5, _, rfl, hw5, wl_m.2.1, _, rfl, _, rfl, _, _, rfl, rfl, (by show 1 + n.length ≤ sizeLine; omega), w, n, _, rfl, ?_⟩
        refine ⟨_, rfl, _, _, rfl, rfl, (by show 1 + n.length ≤ sizeLine; omega), rfl, _, rfl, ?_⟩
        rw [decide_eq_true rfl]
        refine iteF (to_n ?_)
        refine ⟨_, rfl, w, dx5, _, rfl, hw5, wl_m.2.2.1, _, rfl, w, d, n, ns, pk, lds, ah, rfl, wk5, hll, fun u H6 s6 hu' => ?_⟩
        refine ⟨_, rfl, _, _, _, _, rfl, .tup hu', kit_same _ _, _, rfl, iteF ?_⟩
        have s26 := s3.trans (s35.trans s6)
        have hdw6 := s26 _ _ hdw2
        refine ⟨_, rfl, _, rfl, dw, rfl, .inl ⟨_, .inl hdw6⟩, _, rfl, (by show 0 ≤ sizeLine; decide), fun t0 gt0 => ?_⟩
        have s7 : Same H6 (upd H6 t0 (.tup [])) := (Same.refl H6).new gt0
        refine ⟨_, DGet.k (k := Sum.inr n) (upd_keep hdw6 gt0), ?_⟩
        have hv := (ld_fold (n := n) (m := []) (a := []) hlq (.inl ⟨rfl, rfl⟩)).same ((s2.trans (s26.trans s7)).tups)
        obtain ⟨u2, eu2, hu2⟩ := hv.get (t := t0) upd_same
        rw [eu2]
        refine ⟨u, u2, _, _, rfl, rfl, SqT.of (s7 _ _ hu'), SqT.of hu2, ints_eq _, _, rfl, iteF ?_⟩
        exact ⟨_, _, _, rfl, s26.trans s7⟩
      · rintro σ H3 ⟨v6, v7, v8, rfl, s3⟩
        have s03 := s2.trans s3
        have wk3 := wk.same s03
        obtain ⟨kd, hrd3⟩ := wk3.rd
        have hdw3 := s3 _ _ hdw2
        have hdd : dw ≠ d := fun z => by
          obtain ⟨kd0, hrd0⟩ := wk.rd
          rcases hrd0 with z' | ⟨o, z'⟩ <;> rw [← z, gdw] at z' <;> cases z'
        refine ⟨_, rfl, dw, _, rfl, .inl hdw3, fun o Hf bf hdf hfree => ?_⟩
        have wkf : Wk CP ns Hf w d pk lds ah := wk3.other (.inl hdw3) hdd.symm bf
        have s0f : Same H Hf := fun a u h => bf a u (fun z => by rw [z, gdw] at h; cases h) (s03 a u h)
        have hks : ∀ k ∈ keysV (foldP lp []), ∃ n ∈ ns, k = .str n := fun k hk => by
          rcases keys_sub hk with z | ⟨p, hp', e⟩
          · cases z
          · obtain ⟨i, hi⟩ := List.getElem?_of_mem hp'
            obtain ⟨q', hq', e1, _⟩ := Paired.get? hlq hi
            exact ⟨p.1, by rw [e1]; exact (md.ln _ (List.mem_of_getElem? hq')).1, e⟩
        obtain ⟨kf, hrdf⟩ := wkf.rd
        refine for_dict (d := dw) (o := o) (u := .dK (foldP lp [])) (ks := keysV (foldP lp [])) (fun i σ H4 => ∃ v6 v7 v9 : Option V, σ = [some (.ref w), some (.ref nl), some (.ref bl), some (.ref t), some (.bl ah), some (.ref dw), v6, v7, v8, v9] ∧ But d Hf H4 ∧ Wk CP ns H4 w d pk lds ah) ⟨_, _, none, rfl, fun _ _ _ h => h, wkf⟩ (fun i σ H4 _ ⟨_, _, _, _, B4, _⟩ => B4 _ _ hdd hdf) ?_ ?_
        · rintro i k σ H4 hk ⟨v6, v7, v9, rfl, B4, wk4⟩
          obtain ⟨n, hnN, rfl⟩ := hks k (List.mem_of_getElem? hk)
          obtain ⟨dx4, l4, qs4, hw4, _⟩ := wk4.ex
          obtain ⟨k4, hrd4⟩ := wk4.rd
          refine ⟨_, rfl, w, dx4, _, rfl, hw4, wl_m.2.2.2, _, rfl, w, d, n, ns, bs, pk, lds, ah, rfl, wk4, md.ok, hn12, hnN, hll, fun q' hq' => (md.ln q' hq').2, md.tl, fun ta xs H5 B5 wk5 hta hf0 hf1 => ?_⟩
          have B45 : But d Hf H5 := fun a u ha h => B5 a u ha (B4 a u ha h)
          have B05 : But d H H5 := fun a u ha h => B45 a u ha (s0f a u h)
          obtain ⟨k0, hrd0⟩ := wk.rd
          refine ⟨(by show 0 ≤ sizeLine; decide), fun z0 gz0 => ?_⟩
          have s6 : Same H5 (upd H5 z0 (.lst [])) := (Same.refl H5).new gz0
          have hz6 : upd H5 z0 (.lst []) z0 = some (.lst ((firsts []).map V.int)) := upd_same
          generalize upd H5 z0 (.lst []) = H6 at s6 hz6 ⊢
          refine to_g ?_
          have hxl : xs.length ≤ 900 := by
            cases ah with
            | false => rw [hf0 rfl]; exact Nat.zero_le _
            | true =>
              obtain ⟨p, _, rfl⟩ := hf1 rfl
              have := aheadL_len (p := p) (lds := lds) fun q' hq' => (md.ln q' hq').2
              omega
          refine seq_ifJ (fun b H7 => b = ah ∧ H7 = H6) (fun σ' H7 => ∃ due : Addr, σ' = [some (.ref w), some (.ref nl), some (.ref bl), some (.ref t), some (.bl ah), some (.ref dw), some (.str n), some (.ref ta), v8, some (.ref due)] ∧ Same H6 H7 ∧ H7 due = some (.lst ((firsts xs).map V.int))) ?_ ?_ ?_ ?_
          · exact fun Q' h => ⟨_, rfl, _, rfl, h _ _ ⟨rfl, rfl⟩⟩
          · rintro H7 ⟨hb, rfl⟩ D' hJ
            subst hb
            have md6 := (md.but hrd0 B05).same s6
            have bk6 := (hbk.but hrd0 B05).same s6
            have hnl6 := s6 _ _ (B05 _ _ (rd_ne' hrd0 hnl (fun _ z => by cases z) (fun _ _ z => by cases z)) hnl)
            refine ⟨_, rfl, _, rfl, _, rfl, _, rfl, nl, bl, t, n, ns, bs, pk, lds, rfl, hnl6, bk6, hnd, hn12, hnN, md6, fun du p H8 s8 hp8 hdu => ?_⟩
            obtain ⟨p', hp', rfl⟩ := hf1 rfl
            have epp : p = p' := by
              funext m
              have h1 := hp8 m
              have h2 := hp' m
              have h3 : Rch (Ed ["ask", "do"] ns bs) [n] m ↔ Rch (fun a b => b ∈ gTo (tags 0 pk) a) [n] m := by
                have hw : ∀ x, x ∈ (["ask", "do"] : List Str) ↔ x = "ask" ∨ x = "do" := fun x => by simp
                exact ⟨Rch.congr fun a b z => (md.ok.to hw a b).mpr z, Rch.congr fun a b z => (md.ok.to hw a b).mp z⟩
              rw [Bool.eq_iff_iff, h1, h2]
              exact h3
            subst epp
            exact hJ _ _ ⟨du, rfl, s8, hdu⟩
          · rintro H7 ⟨hb, rfl⟩
            rw [hf0 hb.symm]
            exact ⟨z0, rfl, Same.refl _, hz6⟩
          · rintro σ' H7 ⟨due, rfl, s7, hdue⟩
            have hta7 := s7 _ _ (s6 _ _ hta)
            refine ⟨_, rfl, _, _, _, _, rfl, .tup hta7, kit_same _ _, _, rfl, iteF ?_⟩
            refine ⟨_, rfl, ta, xs, rfl, .inl hta7, hxl, fun fl H8 s8 hfl => ?_⟩
            refine ⟨_, rfl, fl, due, _, rfl, rfl, SqL.of hfl, SqL.of (s8 _ _ hdue), ints_flat _, _, rfl, iteF ?_⟩
            have s58 := s6.trans (s7.trans s8)
            exact ⟨_, _, _, rfl, fun a u ha h => s58 _ _ (B45 a u ha h), wk5.same s58⟩
        · rintro σ H4 ⟨v6, v7, v9, rfl, B4, wk4⟩
          exact q H4 fun a u ha h => B4 a u ha (s0f a u h)
theorem cut_ints (sc : List Int) (i j : Nat) : ∃ cs : List Int, cutV (sc.map V.int) (some (i : Int)) (some (j : Int)) = cs.map V.int ∧ cs.length ≤ j - i := by
  refine ⟨(sc.drop (min i sc.length)).take (min j sc.length - min i sc.length), ?_, ?_⟩
  · unfold cutV
    rw [HT.sIx_nat, HT.sIx_nat, List.length_map, List.map_take, List.map_drop]
  · rw [List.length_take, List.length_drop]
    omega
theorem made_same {CP : Addr} {H1 H' : Hp} {x dx : Addr} (gx : H1 x = none) (gdx : H1 dx = none) (B : But x (upd (upd H1 dx (.own x)) x (.ins CP dx [])) H') : Same H1 H' := fun a o h => by
  have h1 : a ≠ x := fun z => by rw [z, gx] at h; cases h
  have h2 : a ≠ dx := fun z => by rw [z, gdx] at h; cases h
  exact B a o h1 (by rw [upd_ne h1, upd_ne h2]; exact h)
theorem made_free {CP : Addr} {H1 : Hp} {x dx d : Addr} (gx : H1 x = none) (gdx : H1 dx = none) (h : upd (upd H1 dx (.own x)) x (.ins CP dx []) d = none) : H1 d = none := by
  cases e : H1 d with
  | none => rfl
  | some o =>
    have h1 : d ≠ x := fun z => by rw [z, gx] at e; cases e
    have h2 : d ≠ dx := fun z => by rw [z, gdx] at e; cases e
    rw [upd_ne h1, upd_ne h2, e] at h
    cases h
theorem wk_ne {CP : Addr} {ns : List Str} {H : Hp} {w d e : Addr} {pk : List (List Ro)} {lds : List (Str × List Int)} {ah : Bool} (h : Wk CP ns H w d pk lds ah) (he : H e = none) : d ≠ e := fun z => by
  obtain ⟨k, hr⟩ := h.rd
  rcases hr with z' | ⟨o, z'⟩ <;> rw [z, he] at z' <;> cases z'
theorem law_fn {f : Addr} {fd : FuncData} (F : Fun K "law" "law" s_law f fd) (T : Tc K mg CP CW) : FnOk P w K mg base CX0 5 f fd ["_law_script"] (spLaw K) := by
  have C_law_cell_at := ok_cell (P := P) (w := w) (base := base) T.toTxt
  have C_law_blocks := ok_blocks (P := P) (w := w) (base := base) T.toTxt
  have C_law_made := ok_made (P := P) (w := w) (base := base) T.toTxt
  have C_law_right := ok_right (P := P) (w := w) (base := base) T
  have C_PacksWalk2 := ok_PkInit3 (P := P) (w := w) (base := base) T
  have C_PacksWalk1 := ok_PkInit2 (P := P) (w := w) (base := base) T
  refine F.ok sc_law (fun vs H Q E h => ?_) (fun cdv A0 outer s H vs Q E hr h => ?_)
  · obtain ⟨a, sc, rfl, _⟩ := h
    rfl
  · obtain ⟨a, sc, rfl, hS, hlen, q⟩ := h
    refine ⟨_, (@pss_cons _ _ _ _ _ (@ps_asg _ _ _ _ _ _ (@pe_fn _ _ _ _ _ _ _ _ _ _ _ C_law_blocks hr (by rfl) (@pa_cons _ _ _ _ _ (@pe_fn _ _ _ _ _ _ _ _ _ _ _ C_law_cell_at hr (by rfl) (@pa_cons _ _ _ _ _ (@pv _ 0 _ _ (by rfl) (by first   | exact Or.inl rfl   | exact Or.inr (Or.inl rfl)   | exact Or.inr (Or.inr rfl)) (by decide) (by decide)) (@pa_cons _ _ _ _ _ (@pe_int _ _ _ _) (@pa_nil _) (by rfl)) (by rfl)) (by decide) (by decide) (by rfl) (by rfl)) (@pa_cons _ _ _ _ _ (@pe_slice _ _ _ _ _ _ _ _ _ _ sl_list (@pv _ 0 _ _ (by rfl) (by first   | exact Or.inl rfl   | exact Or.inr (Or.inl rfl)   | exact Or.inr (Or.inr rfl)) (by decide) (by decide)) (@po_some _ _ _ (@pe_int _ _ _ _)) (@po_some _ _ _ (@pe_int _ _ _ _))) (@pa_nil _) (by rfl)) (by rfl)) (by decide) (by decide) (by rfl) (by rfl)) (@pg_tup _ _ _ _ _ _ rfl (@pgs_cons _ _ _ _ _ (@pg_name _ _ (1) _ sc_law.nd rfl (Or.inl rfl) (by first   | exact .inl rfl   | exact .inr rfl   | assumption)) (@pgs_cons _ _ _ _ _ (@pg_name _ _ (2) _ sc_law.nd rfl (Or.inl rfl) (by first   | exact .inl rfl   | exact .inr rfl   | assumption)) (@pgs_nil _) (by rfl)) (by rfl)) (by rfl) (by rfl)) (by rfl) (by rfl) (by rfl)) (@pss_cons _ _ _ _ _ (@ps_set _ _ (3) _ _ _ _ sc_law.nd rfl (Or.inl rfl) (@pe_fn _ _ _ _ _ _ _ _ _ _ _ C_law_made hr (by rfl) (@pa_cons _ _ _ _ _ (@pv _ 1 _ _ (by rfl) (by first   | exact Or.inl rfl   | exact Or.inr (Or.inl rfl)   | exact Or.inr (Or.inr rfl)) (by decide) (by decide)) (@pa_cons _ _ _ _ _ (@pv _ 2 _ _ (by rfl) (by first   | exact Or.inl rfl   | exact Or.inr (Or.inl rfl)   | exact Or.inr (Or.inr rfl)) (by decide) (by decide)) (@pa_cons _ _ _ _ _ (@pe_op _ _ _ _ _ _ _ _ (@op_mod _) (@pe_fn _ _ _ _ _ _ _ _ _ _ _ C_law_cell_at hr (by rfl) (@pa_cons _ _ _ _ _ (@pv _ 0 _ _ (by rfl) (by first   | exact Or.inl rfl   | exact Or.inr (Or.inl rfl)   | exact Or.inr (Or.inr rfl)) (by decide) (by decide)) (@pa_cons _ _ _ _ _ (@pe_int _ _ _ _) (@pa_nil _) (by rfl)) (by rfl)) (by decide) (by decide) (by rfl) (by rfl)) (@pe_op _ _ _ _ _ _ _ _ (@op_pow _) (@pe_int _ _ _ _) (@pe_int _ _ _ _))) (@pa_nil _) (by rfl)) (by rfl)) (by rfl)) (by decide) (by decide) (by rfl) (by rfl)) (by rfl) (by first   | exact .inl rfl   | exact .inr rfl   | assumption)) (@pss_cons _ _ _ _ _ (@ps_asg _ _ _ _ _ _ (@pe_fn _ _ _ _ _ _ _ _ _ _ _ C_law_blocks hr (by rfl) (@pa_cons _ _ _ _ _ (@pe_fn _ _ _ _ _ _ _ _ _ _ _ C_law_cell_at hr (by rfl) (@pa_cons _ _ _ _ _ (@pv _ 0 _ _ (by rfl) (by first   | exact Or.inl rfl   | exact Or.inr (Or.inl rfl)   | exact Or.inr (Or.inr rfl)) (by decide) (by decide)) (@pa_cons _ _ _ _ _ (@pe_int _ _ _ _) (@pa_nil _) (by rfl)) (by rfl)) (by decide) (by decide) (by rfl) (by rfl)) (@pa_cons _ _ _ _ _ (@pe_slice _ _ _ _ _ _ _ _ _ _ sl_list (@pv _ 0 _ _ (by rfl) (by first   | exact Or.inl rfl   | exact Or.inr (Or.inl rfl)   | exact Or.inr (Or.inr rfl)) (by decide) (by decide)) (@po_some _ _ _ (@pe_int _ _ _ _)) (@po_some _ _ _ (@pe_int _ _ _ _))) (@pa_nil _) (by rfl)) (by rfl)) (by decide) (by decide) (by rfl) (by rfl)) (@pg_tup _ _ _ _ _ _ rfl (@pgs_cons _ _ _ _ _ (@pg_name _ _ (4) _ sc_law.nd rfl (Or.inl rfl) (by first   | exact .inl rfl   | exact .inr rfl   | assumption)) (@pgs_cons _ _ _ _ _ (@pg_name _ _ (5) _ sc_law.nd rfl (Or.inl rfl) (by first   | exact .inl rfl   | exact .inr rfl   | assumption)) (@pgs_nil _) (by rfl)) (by rfl)) (by rfl) (by rfl)) (by rfl) (by rfl) (by rfl)) (@pss_cons _ _ _ _ _ (@ps_set _ _ (6) _ _ _ _ sc_law.nd rfl (Or.inl rfl) (@pe_fn _ _ _ _ _ _ _ _ _ _ _ C_law_made hr (by rfl) (@pa_cons _ _ _ _ _ (@pv _ 4 _ _ (by rfl) (by first   | exact Or.inl rfl   | exact Or.inr (Or.inl rfl)   | exact Or.inr (Or.inr rfl)) (by decide) (by decide)) (@pa_cons _ _ _ _ _ (@pv _ 5 _ _ (by rfl) (by first   | exact Or.inl rfl   | exact Or.inr (Or.inl rfl)   | exact Or.inr (Or.inr rfl)) (by decide) (by decide)) (@pa_cons _ _ _ _ _ (@pe_op _ _ _ _ _ _ _ _ (@op_mod _) (@pe_fn _ _ _ _ _ _ _ _ _ _ _ C_law_cell_at hr (by rfl) (@pa_cons _ _ _ _ _ (@pv _ 0 _ _ (by rfl) (by first   | exact Or.inl rfl   | exact Or.inr (Or.inl rfl)   | exact Or.inr (Or.inr rfl)) (by decide) (by decide)) (@pa_cons _ _ _ _ _ (@pe_int _ _ _ _) (@pa_nil _) (by rfl)) (by rfl)) (by decide) (by decide) (by rfl) (by rfl)) (@pe_op _ _ _ _ _ _ _ _ (@op_pow _) (@pe_int _ _ _ _) (@pe_int _ _ _ _))) (@pa_nil _) (by rfl)) (by rfl)) (by rfl)) (by decide) (by decide) (by rfl) (by rfl)) (by rfl) (by first   | exact .inl rfl   | exact .inr rfl   | assumption)) (@pss_cons _ _ _ _ _ (@ps_set _ _ (7) _ _ _ _ sc_law.nd rfl (Or.inl rfl) (@pe_cmpR _ _ _ _ _ _ _ _ (@op_eq _) (@pe_op _ _ _ _ _ _ _ _ (@op_mod _) (@pe_fn _ _ _ _ _ _ _ _ _ _ _ C_law_cell_at hr (by rfl) (@pa_cons _ _ _ _ _ (@pv _ 0 _ _ (by rfl) (by first   | exact Or.inl rfl   | exact Or.inr (Or.inl rfl)   | exact Or.inr (Or.inr rfl)) (by decide) (by decide)) (@pa_cons _ _ _ _ _ (@pe_int _ _ _ _) (@pa_nil _) (by rfl)) (by rfl)) (by decide) (by decide) (by rfl) (by rfl)) (@pe_int _ _ _ _)) (@pe_int _ _ _ _) (nomark _)) (by rfl) (by first   | exact .inl rfl   | exact .inr rfl   | assumption)) (@pss_cons _ _ _ _ _ (@ps_set _ _ (8) _ _ _ _ sc_law.nd rfl (Or.inl rfl) (@pe_mk1 _ _ _ _ _ _ _ _ _ _ _ _ _ C_PacksWalk2 hr (by rfl) (@pa_cons _ _ _ _ _ (@pv _ 3 _ _ (by rfl) (by first   | exact Or.inl rfl   | exact Or.inr (Or.inl rfl)   | exact Or.inr (Or.inr rfl)) (by decide) (by decide)) (@pa_cons _ _ _ _ _ (@pv _ 7 _ _ (by rfl) (by first   | exact Or.inl rfl   | exact Or.inr (Or.inl rfl)   | exact Or.inr (Or.inr rfl)) (by decide) (by decide)) (@pa_nil _) (by rfl)) (by rfl)) (by decide) (by decide) (by rfl) (by rfl)) (by rfl) (by first   | exact .inl rfl   | exact .inr rfl   | assumption)) (@pss_cons _ _ _ _ _ (@ps_set _ _ (9) _ _ _ _ sc_law.nd rfl (Or.inl rfl) (@pe_mk1 _ _ _ _ _ _ _ _ _ _ _ _ _ C_PacksWalk1 hr (by rfl) (@pa_cons _ _ _ _ _ (@pv _ 3 _ _ (by rfl) (by first   | exact Or.inl rfl   | exact Or.inr (Or.inl rfl)   | exact Or.inr (Or.inr rfl)) (by decide) (by decide)) (@pa_nil _) (by rfl)) (by decide) (by decide) (by rfl) (by rfl)) (by rfl) (by first   | exact .inl rfl   | exact .inr rfl   | assumption)) (@pss_cons _ _ _ _ _ (@ps_set _ _ (10) _ _ _ _ sc_law.nd rfl (Or.inl rfl) (@pe_mk1 _ _ _ _ _ _ _ _ _ _ _ _ _ C_PacksWalk2 hr (by rfl) (@pa_cons _ _ _ _ _ (@pv _ 6 _ _ (by rfl) (by first   | exact Or.inl rfl   | exact Or.inr (Or.inl rfl)   | exact Or.inr (Or.inr rfl)) (by decide) (by decide)) (@pa_cons _ _ _ _ _ (@pe_bl _ _ _ _) (@pa_nil _) (by rfl)) (by rfl)) (by decide) (by decide) (by rfl) (by rfl)) (by rfl) (by first   | exact .inl rfl   | exact .inr rfl   | assumption)) (@pss_cons _ _ _ _ _ (@ps_if _ _ _ _ _ _ _ _ (PW.pt (@pw_or _ _ _ _ _ _ _ (@pt_not _ _ _ _ (@pt_val _ _ _ (@pe_callB _ _ _ _ _ _ _ _ _ (@call_isinstI _) (by rfl) T.n_isinstance PyProof.Rows.boot_isinstance (@pa_cons _ _ _ _ _ (@pv _ 8 _ _ (by rfl) (by first   | exact Or.inl rfl   | exact Or.inr (Or.inl rfl)   | exact Or.inr (Or.inr rfl)) (by decide) (by decide)) (@pa_cons _ _ _ _ _ (@pe_glob _ _ (.ref CW) _ _ (by rfl) T.g_Walk rfl (by decide)) (@pa_nil _) (by rfl)) (by rfl)) (by decide) (by decide) (by rfl) (by rfl)) (by intro _; rfl))) (@pw_or1 _ _ _ _ (@pt_not _ _ _ _ (@pt_val _ _ _ (@pe_callB _ _ _ _ _ _ _ _ _ (@call_isinstI _) (by rfl) T.n_isinstance PyProof.Rows.boot_isinstance (@pa_cons _ _ _ _ _ (@pv _ 9 _ _ (by rfl) (by first   | exact Or.inl rfl   | exact Or.inr (Or.inl rfl)   | exact Or.inr (Or.inr rfl)) (by decide) (by decide)) (@pa_cons _ _ _ _ _ (@pe_glob _ _ (.ref CW) _ _ (by rfl) T.g_Walk rfl (by decide)) (@pa_nil _) (by rfl)) (by rfl)) (by decide) (by decide) (by rfl) (by rfl)) (by intro _; rfl)))))) (@pss_one _ _ _ (@ps_ret _ _ _ _ (@pe_bl _ _ _ _))) (@pss_nil _)) (@pss_cons _ _ _ _ _ (@ps_if _ _ _ _ _ _ _ _ (PW.pt (@pw_or _ _ _ _ _ _ _ (@pt_not _ _ _ _ (@pt_val _ _ _ (@pe_fn _ _ _ _ _ _ _ _ _ _ _ C_law_right hr (by rfl) (@pa_cons _ _ _ _ _ (@pv _ 10 _ _ (by rfl) (by first   | exact Or.inl rfl   | exact Or.inr (Or.inl rfl)   | exact Or.inr (Or.inr rfl)) (by decide) (by decide)) (@pa_cons _ _ _ _ _ (@pv _ 4 _ _ (by rfl) (by first   | exact Or.inl rfl   | exact Or.inr (Or.inl rfl)   | exact Or.inr (Or.inr rfl)) (by decide) (by decide)) (@pa_cons _ _ _ _ _ (@pv _ 5 _ _ (by rfl) (by first   | exact Or.inl rfl   | exact Or.inr (Or.inl rfl)   | exact Or.inr (Or.inr rfl)) (by decide) (by decide)) (@pa_cons _ _ _ _ _ (@pv _ 6 _ _ (by rfl) (by first   | exact Or.inl rfl   | exact Or.inr (Or.inl rfl)   | exact Or.inr (Or.inr rfl)) (by decide) (by decide)) (@pa_cons _ _ _ _ _ (@pe_bl _ _ _ _) (@pa_nil _) (by rfl)) (by rfl)) (by rfl)) (by rfl)) (by rfl)) (by decide) (by decide) (by rfl) (by rfl)) (by intro _; rfl))) (@pw_or1 _ _ _ _ (@pt_not _ _ _ _ (@pt_val _ _ _ (@pe_fn _ _ _ _ _ _ _ _ _ _ _ C_law_right hr (by rfl) (@pa_cons _ _ _ _ _ (@pv _ 8 _ _ (by rfl) (by first   | exact Or.inl rfl   | exact Or.inr (Or.inl rfl)   | exact Or.inr (Or.inr rfl)) (by decide) (by decide)) (@pa_cons _ _ _ _ _ (@pv _ 1 _ _ (by rfl) (by first   | exact Or.inl rfl   | exact Or.inr (Or.inl rfl)   | exact Or.inr (Or.inr rfl)) (by decide) (by decide)) (@pa_cons _ _ _ _ _ (@pv _ 2 _ _ (by rfl) (by first   | exact Or.inl rfl   | exact Or.inr (Or.inl rfl)   | exact Or.inr (Or.inr rfl)) (by decide) (by decide)) (@pa_cons _ _ _ _ _ (@pv _ 3 _ _ (by rfl) (by first   | exact Or.inl rfl   | exact Or.inr (Or.inl rfl)   | exact Or.inr (Or.inr rfl)) (by decide) (by decide)) (@pa_cons _ _ _ _ _ (@pv _ 7 _ _ (by rfl) (by first   | exact Or.inl rfl   | exact Or.inr (Or.inl rfl)   | exact Or.inr (Or.inr rfl)) (by decide) (by decide)) (@pa_nil _) (by rfl)) (by rfl)) (by rfl)) (by rfl)) (by rfl)) (by decide) (by decide) (by rfl) (by rfl)) (by intro _; rfl)))))) (@pss_one _ _ _ (@ps_ret _ _ _ _ (@pe_bl _ _ _ _))) (@pss_nil _)) (@pss_one _ _ _ (@ps_ret _ _ _ _ (@pe_fn _ _ _ _ _ _ _ _ _ _ _ C_law_right hr (by rfl) (@pa_cons _ _ _ _ _ (@pv _ 9 _ _ (by rfl) (by first   | exact Or.inl rfl   | exact Or.inr (Or.inl rfl)   | exact Or.inr (Or.inr rfl)) (by decide) (by decide)) (@pa_cons _ _ _ _ _ (@pv _ 1 _ _ (by rfl) (by first   | exact Or.inl rfl   | exact Or.inr (Or.inl rfl)   | exact Or.inr (Or.inr rfl)) (by decide) (by decide)) (@pa_cons _ _ _ _ _ (@pv _ 2 _ _ (by rfl) (by first   | exact Or.inl rfl   | exact Or.inr (Or.inl rfl)   | exact Or.inr (Or.inr rfl)) (by decide) (by decide)) (@pa_cons _ _ _ _ _ (@pv _ 3 _ _ (by rfl) (by first   | exact Or.inl rfl   | exact Or.inr (Or.inl rfl)   | exact Or.inr (Or.inr rfl)) (by decide) (by decide)) (@pa_cons _ _ _ _ _ (@pe_bl _ _ _ _) (@pa_nil _) (by rfl)) (by rfl)) (by rfl)) (by rfl)) (by rfl)) (by decide) (by decide) (by rfl) (by rfl)))))))))))))), ?_⟩
    obtain ⟨cs1, ec1, hc1⟩ := cut_ints sc 3 43
    obtain ⟨cs2, ec2, hc2⟩ := cut_ints sc 1 9
    refine ⟨_, rfl, a, sc, 0, rfl, hS, by decide, fun c0 => ?_⟩
    refine ⟨_, rfl, _, rfl, _, rfl, a, _, rfl, hS, fun l1 gl1 => ?_⟩
    rw [show cutV (sc.map V.int) (some 3) (some 43) = cs1.map V.int from ec1]
    have s1 : Same H (upd H l1 (.lst (cs1.map V.int))) := (Same.refl H).new gl1
    refine ⟨c0, l1, cs1, rfl, upd_same, by omega, fun t1 nl bl ns bs H1 s1' ht1 hnl hbk hnd hn1 hn12 hnle => ?_⟩
    refine ⟨t1, _, rfl, SqT.of ht1, rfl, _, _, rfl, _, _, rfl, rfl, ?_⟩
    have s01 := s1.trans s1'
    refine ⟨_, rfl, _, rfl, _, rfl, a, sc, 1, rfl, s01.seq hS, by decide, fun c1 => ?_⟩
    refine ⟨_, _, rfl, rfl, ⟨by decide, by decide, by decide⟩, _, _, rfl, rfl, (by show (0 : Int) < 10 ^ (20 : Int).toNat; decide), nl, bl, _, ns, bs, rfl, hnl, hbk, hnd, hn1, hn12, fun tm pk lds H2 s2 md => ?_⟩
    have s02 := s01.trans s2
    refine ⟨_, rfl, a, sc, 1, rfl, s02.seq hS, by decide, fun c2 => ?_⟩
    refine ⟨_, rfl, _, rfl, _, rfl, a, _, rfl, s02.seq hS, fun l2 gl2 => ?_⟩
    rw [show cutV (sc.map V.int) (some 1) (some 9) = cs2.map V.int from ec2]
    have s3 : Same H2 (upd H2 l2 (.lst (cs2.map V.int))) := (Same.refl H2).new gl2
    refine ⟨c2, l2, cs2, rfl, upd_same, by omega, fun t2 nl' bl' ns' bs' H3 s3' ht2 hnl' hbk' hnd' hn1' hn12' hnle' => ?_⟩
    refine ⟨t2, _, rfl, SqT.of ht2, rfl, _, _, rfl, _, _, rfl, rfl, ?_⟩
    have s23 := s3.trans s3'
    have s03 := s02.trans s23
    refine ⟨_, rfl, _, rfl, _, rfl, a, sc, 2, rfl, s03.seq hS, by decide, fun c3 => ?_⟩
    refine ⟨_, _, rfl, rfl, ⟨by decide, by decide, by decide⟩, _, _, rfl, rfl, (by show (0 : Int) < 10 ^ (20 : Int).toNat; decide), nl', bl', _, ns', bs', rfl, hnl', hbk', hnd', hn1', hn12', fun to pk' lds' H4 s4 md' => ?_⟩
    have s24 := s23.trans s4
    have s04 := s03.trans s4
    refine ⟨_, rfl, a, sc, 2, rfl, s04.seq hS, by decide, fun c4 => ?_⟩
    refine ⟨_, _, rfl, rfl, (by show (0 : Int) < 2; decide), rfl, ?_⟩
    generalize decide (V.int (c4 % 2) = V.int 1) = ah
    refine ⟨_, rfl, _, rfl, fun w8 dx8 gw8 gdx8 hne8 => ?_⟩
    have u8 : Same H4 (upd (upd H4 dx8 (.own w8)) w8 (.ins CP dx8 [])) := ((Same.refl H4).new gdx8).new (by rw [upd_ne hne8.symm]; exact gw8)
    refine ⟨w8, tm, dx8, ah, ns, bs, pk, lds, rfl, upd_same, (md.same s24).same u8, hnd, hn12, fun d8 H5 B5 gd8 wk8 => ⟨rfl, ?_⟩⟩
    have s5 := made_same gw8 gdx8 B5
    have s25 := s24.trans s5
    refine ⟨_, rfl, fun w9 dx9 gw9 gdx9 hne9 => ?_⟩
    have u9 : Same H5 (upd (upd H5 dx9 (.own w9)) w9 (.ins CP dx9 [])) := ((Same.refl H5).new gdx9).new (by rw [upd_ne hne9.symm]; exact gw9)
    refine ⟨w9, tm, dx9, false, ns, bs, pk, lds, rfl, upd_same, (md.same s25).same u9, hnd, hn12, fun d9 H6 B6 gd9 wk9 => ⟨rfl, ?_⟩⟩
    have s6 := made_same gw9 gdx9 B6
    have h98 := wk_ne wk8 (made_free gw9 gdx9 gd9)
    have s26 := s25.trans s6
    have s46 := s5.trans s6
    refine ⟨_, rfl, fun w10 dx10 gw10 gdx10 hne10 => ?_⟩
    have u10 : Same H6 (upd (upd H6 dx10 (.own w10)) w10 (.ins CP dx10 [])) := ((Same.refl H6).new gdx10).new (by rw [upd_ne hne10.symm]; exact gw10)
    refine ⟨w10, to, dx10, true, ns', bs', pk', lds', rfl, upd_same, (md'.same s46).same u10, hnd', hn12', fun d10 H7 B7 gd10 wk10 => ⟨rfl, ?_⟩⟩
    have s7 := made_same gw10 gdx10 B7
    have wk9' := wk9.same s7
    have wk8' := wk8.same (s6.trans s7)
    have h10 := made_free gw10 gdx10 gd10
    have h109 := wk_ne wk9 h10
    have h108 := wk_ne (wk8.same s6) h10
    have s27 := s26.trans s7
    have s47 := s46.trans s7
    obtain ⟨dx8', l8, qs8, hw8, _⟩ := wk8'.ex
    obtain ⟨dx9', l9, qs9, hw9, _⟩ := wk9'.ex
    refine ⟨_, rfl, w8, CP, dx8', _, CW, true, rfl, hw8, T.oc_PacksWalk, T.is_Walk, _, rfl, iteF ?_⟩
    refine ⟨_, rfl, w9, CP, dx9', _, CW, true, rfl, hw9, T.oc_PacksWalk, T.is_Walk, _, rfl, iteF (to_n ?_)⟩
    obtain ⟨k10, hr10⟩ := wk10.rd
    refine ⟨_, rfl, _, rfl, _, rfl, _, rfl, w10, d10, nl', bl', to, ns', bs', pk', lds', true, rfl, wk10, s47 _ _ (s4 _ _ hnl'), hbk'.same (s4.trans s47), hnd', hn12', hnle', md'.same s47, fun H8 B8 => ?_⟩
    refine ⟨_, rfl, iteF ?_⟩
    have wk8a := wk8'.other hr10 h108 B8
    have wk9a := wk9'.other hr10 h109 B8
    have hnl7 := s27 _ _ (s2 _ _ hnl)
    have hnl8 := B8 _ _ (rd_ne' hr10 hnl7 (fun _ z => by cases z) (fun _ _ z => by cases z)) hnl7
    have hbk8 := (hbk.same (s2.trans s27)).but hr10 B8
    have md8 := (md.same s27).but hr10 B8
    obtain ⟨k8, hr8⟩ := wk8a.rd
    refine ⟨_, rfl, _, rfl, _, rfl, _, rfl, _, rfl, w8, d8, nl, bl, tm, ns, bs, pk, lds, ah, rfl, wk8a, hnl8, hbk8, hnd, hn12, hnle, md8, fun H9 B9 => ?_⟩
    refine ⟨_, rfl, iteF ?_⟩
    have wk9b := wk9a.other hr8 h98.symm B9
    have hnl9 := B9 _ _ (rd_ne' hr8 hnl8 (fun _ z => by cases z) (fun _ _ z => by cases z)) hnl8
    refine ⟨_, rfl, _, rfl, _, rfl, _, rfl, w9, d9, nl, bl, tm, ns, bs, pk, lds, false, rfl, wk9b, hnl9, hbk8.but hr8 B9, hnd, hn12, hnle, md8.but hr8 B9, fun H10 _ => q H10⟩
end
end K63
set_option Elab.async false
set_option linter.all false
set_option maxRecDepth 100000
namespace K63
open PySem L2
theorem all_mk {l : PySem.W.OpenLaw} {w : World} {K : PySem.W.Frag} {h : Heap} {mg : Str → Option Value} {fa : Addr} (X : K.In h) (G : h.Ns mainGlobals mg) (hfa : mg "law" = some (.ref fa))
    {CP CW : Addr}
    {f0 : Addr} {od0 an0 : Option Addr} {sl0 : Array (Option Value)} {oc0 kV0 dc0 pm0 cd0 ct0 : Value}
    {f1 : Addr} {od1 an1 : Option Addr} {sl1 : Array (Option Value)} {oc1 kV1 dc1 pm1 cd1 ct1 : Value}
    {f2 : Addr} {od2 an2 : Option Addr} {sl2 : Array (Option Value)} {oc2 kV2 dc2 pm2 cd2 ct2 : Value}
    {f3 : Addr} {od3 an3 : Option Addr} {sl3 : Array (Option Value)} {oc3 kV3 dc3 pm3 cd3 ct3 : Value}
    {f4 : Addr} {od4 an4 : Option Addr} {sl4 : Array (Option Value)} {oc4 kV4 dc4 pm4 cd4 ct4 : Value}
    {f5 : Addr} {od5 an5 : Option Addr} {sl5 : Array (Option Value)} {oc5 kV5 dc5 pm5 cd5 ct5 : Value}
    {f6 : Addr} {od6 an6 : Option Addr} {sl6 : Array (Option Value)} {oc6 kV6 dc6 pm6 cd6 ct6 : Value}
    {f7 : Addr} {od7 an7 : Option Addr} {sl7 : Array (Option Value)} {oc7 kV7 dc7 pm7 cd7 ct7 : Value}
    {f8 : Addr} {od8 an8 : Option Addr} {sl8 : Array (Option Value)} {oc8 kV8 dc8 pm8 cd8 ct8 : Value}
    {f9 : Addr} {od9 an9 : Option Addr} {sl9 : Array (Option Value)} {oc9 kV9 dc9 pm9 cd9 ct9 : Value}
    {f10 : Addr} {od10 an10 : Option Addr} {sl10 : Array (Option Value)} {oc10 kV10 dc10 pm10 cd10 ct10 : Value}
    {f11 : Addr} {od11 an11 : Option Addr} {sl11 : Array (Option Value)} {oc11 kV11 dc11 pm11 cd11 ct11 : Value}
    {f12 : Addr} {od12 an12 : Option Addr} {sl12 : Array (Option Value)} {oc12 kV12 dc12 pm12 cd12 ct12 : Value}
    {f13 : Addr} {od13 an13 : Option Addr} {sl13 : Array (Option Value)} {oc13 kV13 dc13 pm13 cd13 ct13 : Value}
    {f14 : Addr} {od14 an14 : Option Addr} {sl14 : Array (Option Value)} {oc14 kV14 dc14 pm14 cd14 ct14 : Value}
    {f15 : Addr} {od15 an15 : Option Addr} {sl15 : Array (Option Value)} {oc15 kV15 dc15 pm15 cd15 ct15 : Value}
    {f16 : Addr} {od16 an16 : Option Addr} {sl16 : Array (Option Value)} {oc16 kV16 dc16 pm16 cd16 ct16 : Value}
    {DD : Addr} {ocD : Value} {odD : Option Addr} {nD : Nat} {slD : Array (Option Value)}
    {f17 : Addr} {od17 an17 : Option Addr} {sl17 : Array (Option Value)} {oc17 kV17 dc17 pm17 cd17 ct17 : Value}
    {f18 : Addr} {od18 an18 : Option Addr} {sl18 : Array (Option Value)} {oc18 kV18 dc18 pm18 cd18 ct18 : Value}
    {f19 : Addr} {od19 an19 : Option Addr} {sl19 : Array (Option Value)} {oc19 kV19 dc19 pm19 cd19 ct19 : Value}
    {f20 : Addr} {od20 an20 : Option Addr} {sl20 : Array (Option Value)} {oc20 kV20 dc20 pm20 cd20 ct20 : Value}
    {f21 : Addr} {od21 an21 : Option Addr} {sl21 : Array (Option Value)} {oc21 kV21 dc21 pm21 cd21 ct21 : Value}
    (a0 : PySem.W.nsIn K mainGlobals "spread" = some (some (.ref f0))) (l0 : K.lookup f0 = some ⟨oc0, od0, .func (PySem.W.fnOf "spread" "spread" (defArgs s_spread) (defBody s_spread) (defScope s_spread) .none kV0 dc0 pm0 an0 cd0 ct0), sl0⟩) (c0 : PySem.W.codeIn K cd0 "spread" = true) (k0 : PySem.W.keepIn K (.ref f0) = true)
    (a1 : PySem.W.nsIn K mainGlobals "blocks_in" = some (some (.ref f1))) (l1 : K.lookup f1 = some ⟨oc1, od1, .func (PySem.W.fnOf "blocks_in" "blocks_in" (defArgs s_blocks_in) (defBody s_blocks_in) (defScope s_blocks_in) .none kV1 dc1 pm1 an1 cd1 ct1), sl1⟩) (c1 : PySem.W.codeIn K cd1 "blocks_in" = true) (k1 : PySem.W.keepIn K (.ref f1) = true)
    (a2 : PySem.W.nsIn K mainGlobals "next_parts" = some (some (.ref f2))) (l2 : K.lookup f2 = some ⟨oc2, od2, .func (PySem.W.fnOf "next_parts" "next_parts" (defArgs s_next_parts) (defBody s_next_parts) (defScope s_next_parts) .none kV2 dc2 pm2 an2 cd2 ct2), sl2⟩) (c2 : PySem.W.codeIn K cd2 "next_parts" = true) (k2 : PySem.W.keepIn K (.ref f2) = true)
    (a3 : PySem.W.nsIn K mainGlobals "_law_cell_at" = some (some (.ref f3))) (l3 : K.lookup f3 = some ⟨oc3, od3, .func (PySem.W.fnOf "_law_cell_at" "_law_cell_at" (defArgs s_law_cell_at) (defBody s_law_cell_at) (defScope s_law_cell_at) .none kV3 dc3 pm3 an3 cd3 ct3), sl3⟩) (c3 : PySem.W.codeIn K cd3 "_law_cell_at" = true) (k3 : PySem.W.keepIn K (.ref f3) = true)
    (a4 : PySem.W.nsIn K mainGlobals "_law_stream" = some (some (.ref f4))) (l4 : K.lookup f4 = some ⟨oc4, od4, .func (PySem.W.fnOf "_law_stream" "_law_stream" (defArgs s_law_stream) (defBody s_law_stream) (defScope s_law_stream) .none kV4 dc4 pm4 an4 cd4 ct4), sl4⟩) (c4 : PySem.W.codeIn K cd4 "_law_stream" = true) (k4 : PySem.W.keepIn K (.ref f4) = true)
    (a5 : PySem.W.nsIn K mainGlobals "_law_names" = some (some (.ref f5))) (l5 : K.lookup f5 = some ⟨oc5, od5, .func (PySem.W.fnOf "_law_names" "_law_names" (defArgs s_law_names) (defBody s_law_names) (defScope s_law_names) .none kV5 dc5 pm5 an5 cd5 ct5), sl5⟩) (c5 : PySem.W.codeIn K cd5 "_law_names" = true) (k5 : PySem.W.keepIn K (.ref f5) = true)
    (a6 : PySem.W.nsIn K mainGlobals "_law_sum" = some (some (.ref f6))) (l6 : K.lookup f6 = some ⟨oc6, od6, .func (PySem.W.fnOf "_law_sum" "_law_sum" (defArgs s_law_sum) (defBody s_law_sum) (defScope s_law_sum) .none kV6 dc6 pm6 an6 cd6 ct6), sl6⟩) (c6 : PySem.W.codeIn K cd6 "_law_sum" = true) (k6 : PySem.W.keepIn K (.ref f6) = true)
    (a7 : PySem.W.nsIn K mainGlobals "_law_row" = some (some (.ref f7))) (l7 : K.lookup f7 = some ⟨oc7, od7, .func (PySem.W.fnOf "_law_row" "_law_row" (defArgs s_law_row) (defBody s_law_row) (defScope s_law_row) .none kV7 dc7 pm7 an7 cd7 ct7), sl7⟩) (c7 : PySem.W.codeIn K cd7 "_law_row" = true) (k7 : PySem.W.keepIn K (.ref f7) = true)
    (a8 : PySem.W.nsIn K mainGlobals "_law_blocks" = some (some (.ref f8))) (l8 : K.lookup f8 = some ⟨oc8, od8, .func (PySem.W.fnOf "_law_blocks" "_law_blocks" (defArgs s_law_blocks) (defBody s_law_blocks) (defScope s_law_blocks) .none kV8 dc8 pm8 an8 cd8 ct8), sl8⟩) (c8 : PySem.W.codeIn K cd8 "_law_blocks" = true) (k8 : PySem.W.keepIn K (.ref f8) = true)
    (a9 : PySem.W.nsIn K mainGlobals "_law_there" = some (some (.ref f9))) (l9 : K.lookup f9 = some ⟨oc9, od9, .func (PySem.W.fnOf "_law_there" "_law_there" (defArgs s_law_there) (defBody s_law_there) (defScope s_law_there) .none kV9 dc9 pm9 an9 cd9 ct9), sl9⟩) (c9 : PySem.W.codeIn K cd9 "_law_there" = true) (k9 : PySem.W.keepIn K (.ref f9) = true)
    (a10 : PySem.W.nsIn K mainGlobals "_law_roots" = some (some (.ref f10))) (l10 : K.lookup f10 = some ⟨oc10, od10, .func (PySem.W.fnOf "_law_roots" "_law_roots" (defArgs s_law_roots) (defBody s_law_roots) (defScope s_law_roots) .none kV10 dc10 pm10 an10 cd10 ct10), sl10⟩) (c10 : PySem.W.codeIn K cd10 "_law_roots" = true) (k10 : PySem.W.keepIn K (.ref f10) = true)
    (a11 : PySem.W.nsIn K mainGlobals "_law_made" = some (some (.ref f11))) (l11 : K.lookup f11 = some ⟨oc11, od11, .func (PySem.W.fnOf "_law_made" "_law_made" (defArgs s_law_made) (defBody s_law_made) (defScope s_law_made) .none kV11 dc11 pm11 an11 cd11 ct11), sl11⟩) (c11 : PySem.W.codeIn K cd11 "_law_made" = true) (k11 : PySem.W.keepIn K (.ref f11) = true)
    (a12 : PySem.W.nsIn K mainGlobals "_law_rows" = some (some (.ref f12))) (l12 : K.lookup f12 = some ⟨oc12, od12, .func (PySem.W.fnOf "_law_rows" "_law_rows" (defArgs s_law_rows) (defBody s_law_rows) (defScope s_law_rows) .none kV12 dc12 pm12 an12 cd12 ct12), sl12⟩) (c12 : PySem.W.codeIn K cd12 "_law_rows" = true) (k12 : PySem.W.keepIn K (.ref f12) = true)
    (a13 : PySem.W.nsIn K mainGlobals "_law_firsts" = some (some (.ref f13))) (l13 : K.lookup f13 = some ⟨oc13, od13, .func (PySem.W.fnOf "_law_firsts" "_law_firsts" (defArgs s_law_firsts) (defBody s_law_firsts) (defScope s_law_firsts) .none kV13 dc13 pm13 an13 cd13 ct13), sl13⟩) (c13 : PySem.W.codeIn K cd13 "_law_firsts" = true) (k13 : PySem.W.keepIn K (.ref f13) = true)
    (a14 : PySem.W.nsIn K mainGlobals "_law_ahead" = some (some (.ref f14))) (l14 : K.lookup f14 = some ⟨oc14, od14, .func (PySem.W.fnOf "_law_ahead" "_law_ahead" (defArgs s_law_ahead) (defBody s_law_ahead) (defScope s_law_ahead) .none kV14 dc14 pm14 an14 cd14 ct14), sl14⟩) (c14 : PySem.W.codeIn K cd14 "_law_ahead" = true) (k14 : PySem.W.keepIn K (.ref f14) = true)
    (a15 : PySem.W.nsIn K mainGlobals "_law_right" = some (some (.ref f15))) (l15 : K.lookup f15 = some ⟨oc15, od15, .func (PySem.W.fnOf "_law_right" "_law_right" (defArgs s_law_right) (defBody s_law_right) (defScope s_law_right) .none kV15 dc15 pm15 an15 cd15 ct15), sl15⟩) (c15 : PySem.W.codeIn K cd15 "_law_right" = true) (k15 : PySem.W.keepIn K (.ref f15) = true)
    (a16 : PySem.W.nsIn K mainGlobals "law" = some (some (.ref f16))) (l16 : K.lookup f16 = some ⟨oc16, od16, .func (PySem.W.fnOf "law" "law" (defArgs s_law) (defBody s_law) (defScope s_law) .none kV16 dc16 pm16 an16 cd16 ct16), sl16⟩) (c16 : PySem.W.codeIn K cd16 "law" = true) (k16 : PySem.W.keepIn K (.ref f16) = true)
    (a17 : PySem.W.findIn K (.ref CP) "rows_of" = some (some (.ref f17))) (i17 : PySem.W.isFn K (.ref f17) = true) (l17 : K.lookup f17 = some ⟨oc17, od17, .func (PySem.W.fnOf "rows_of" "PacksWalk.rows_of" (defArgs s_PacksWalk_rows_of) (defBody s_PacksWalk_rows_of) (defScope s_PacksWalk_rows_of) .none kV17 dc17 pm17 an17 cd17 ct17), sl17⟩) (c17 : PySem.W.codeIn K cd17 "PacksWalk.rows_of" = true) (k17 : PySem.W.keepIn K (.ref f17) = true)
    (a18 : PySem.W.findIn K (.ref CP) "key_of" = some (some (.ref f18))) (i18 : PySem.W.isFn K (.ref f18) = true) (l18 : K.lookup f18 = some ⟨oc18, od18, .func (PySem.W.fnOf "key_of" "Walk.key_of" (defArgs s_Walk_key_of) (defBody s_Walk_key_of) (defScope s_Walk_key_of) .none kV18 dc18 pm18 an18 cd18 ct18), sl18⟩) (c18 : PySem.W.codeIn K cd18 "Walk.key_of" = true) (k18 : PySem.W.keepIn K (.ref f18) = true)
    (a19 : PySem.W.findIn K (.ref CP) "loads_of" = some (some (.ref f19))) (i19 : PySem.W.isFn K (.ref f19) = true) (l19 : K.lookup f19 = some ⟨oc19, od19, .func (PySem.W.fnOf "loads_of" "PacksWalk.loads_of" (defArgs s_PacksWalk_loads_of) (defBody s_PacksWalk_loads_of) (defScope s_PacksWalk_loads_of) .none kV19 dc19 pm19 an19 cd19 ct19), sl19⟩) (c19 : PySem.W.codeIn K cd19 "PacksWalk.loads_of" = true) (k19 : PySem.W.keepIn K (.ref f19) = true)
    (a20 : PySem.W.findIn K (.ref CP) "ahead_of" = some (some (.ref f20))) (i20 : PySem.W.isFn K (.ref f20) = true) (l20 : K.lookup f20 = some ⟨oc20, od20, .func (PySem.W.fnOf "ahead_of" "PacksWalk.ahead_of" (defArgs s_PacksWalk_ahead_of) (defBody s_PacksWalk_ahead_of) (defScope s_PacksWalk_ahead_of) .none kV20 dc20 pm20 an20 cd20 ct20), sl20⟩) (c20 : PySem.W.codeIn K cd20 "PacksWalk.ahead_of" = true) (k20 : PySem.W.keepIn K (.ref f20) = true)
    (a21 : PySem.W.findIn K (.ref CP) "__init__" = some (some (.ref f21))) (i21 : PySem.W.isFn K (.ref f21) = true) (l21 : K.lookup f21 = some ⟨oc21, od21, .func (PySem.W.fnOf "__init__" "PacksWalk.__init__" (defArgs s_PacksWalk___init__) (defBody s_PacksWalk___init__) (defScope s_PacksWalk___init__) (.ref DD) kV21 dc21 pm21 an21 cd21 ct21), sl21⟩) (c21 : PySem.W.codeIn K cd21 "PacksWalk.__init__" = true) (k21 : PySem.W.keepIn K (.ref f21) = true)
    (lDD : K.lookup DD = some ⟨ocD, odD, .seq #[.bool false] nD, slD⟩)
    (gCP : PySem.W.nsIn K mainGlobals "PacksWalk" = some (some (.ref CP))) (pgCP : PySem.W.plainGet K CP Str.empty = true) (hdCP : PySem.W.hasDictIn K CP = true) (poCP : PySem.W.plainOver K CP = true) (saCP : PySem.W.findIn K (.ref CP) "__setattr__" = some (some (.builtin "object.__setattr__"))) (mkCP : PySem.W.makesIn K CP = true) (kcCP : PySem.W.keepIn K (.ref CP) = true)
    (gCW : PySem.W.nsIn K mainGlobals "Walk" = some (some (.ref CW)))
    (nPblocks : PySem.W.findIn K (.ref CP) "blocks" = some none)
    (nPloads : PySem.W.findIn K (.ref CP) "loads" = some none)
    (nPahead : PySem.W.findIn K (.ref CP) "ahead" = some none)
    (z0 : PySem.W.nsIn K mainGlobals "len" = some none)
    (z1 : PySem.W.nsIn K mainGlobals "range" = some none)
    (z2 : PySem.W.nsIn K mainGlobals "str" = some none)
    (z3 : PySem.W.nsIn K mainGlobals "tuple" = some none)
    (z4 : PySem.W.nsIn K mainGlobals "list" = some none)
    (z5 : PySem.W.nsIn K mainGlobals "dict" = some none)
    (z6 : PySem.W.nsIn K mainGlobals "enumerate" = some none)
    (z7 : PySem.W.nsIn K mainGlobals "isinstance" = some none)
    (z8 : PySem.W.nsIn K mainGlobals "max" = some none)
    (z9 : PySem.W.nsIn K mainGlobals "sorted" = some none)
    (ow_pg : PySem.W.plainGet K CP "__class__" = true)
    (ow_ha : PySem.W.findIn K (.ref CP) "__class__" = some (some (.builtin "object.__class__")))
    (ow_hn : PySem.W.specialIn K (.builtin "object.__class__") "__get__" = some (some (.builtin "getset_descriptor.__get__")))
    (ow_ht : PySem.W.takesIn K (.builtin "object.__class__") = some true)
    (ow_hm : PySem.W.mroIn K CP (.type "object") = some true)
    (ow_is : PySem.W.kitOne K (.ref CP) (.ref CW) = some true) :
    ∃ fd : FuncData, (∀ (s : Shared) (v : Value), BindsTo s fd ⟨[v], []⟩ [("_law_script", v)]) ∧ ∀ base : Heap, K.In base → base.Ns mainGlobals mg → FnOk l.prog w K mg base CX0 5 fa fd ["_law_script"] (spLaw K) := by
  have e := hfa.symm.trans (PySem.W.mg_of X G a16)
  cases e
  have T0 : Txt K mg := ⟨PySem.W.mg_none_of X G z0, PySem.W.mg_none_of X G z1, PySem.W.mg_none_of X G z2, PySem.W.mg_none_of X G z3, PySem.W.mg_none_of X G z4, PySem.W.mg_none_of X G z5, PySem.W.mg_none_of X G z6, PySem.W.mg_none_of X G z7, PySem.W.mg_none_of X G z8, PySem.W.mg_none_of X G z9, hasDef_mk X G a0 l0 c0 k0, hasDef_mk X G a1 l1 c1 k1, hasDef_mk X G a2 l2 c2 k2, hasDef_mk X G a3 l3 c3 k3, hasDef_mk X G a4 l4 c4 k4, hasDef_mk X G a5 l5 c5 k5, hasDef_mk X G a6 l6 c6 k6, hasDef_mk X G a7 l7 c7 k7, hasDef_mk X G a8 l8 c8 k8, hasDef_mk X G a9 l9 c9 k9, hasDef_mk X G a10 l10 c10 k10, hasDef_mk X G a11 l11 c11 k11, hasDef_mk X G a12 l12 c12 k12, hasDef_mk X G a13 l13 c13 k13, hasDef_mk X G a14 l14 c14 k14, hasDef_mk X G a15 l15 c15 k15⟩
  have T : Tc K mg CP CW := ⟨T0, ⟨pgCP, hdCP, poCP, saCP⟩, PySem.W.mg_of X G gCP, PySem.W.mg_of X G gCW, nPblocks, nPloads, nPahead, hasM_mk a17 i17 l17 c17 k17, hasM_mk a18 i18 l18 c18 k18, hasM_mk a19 i19 l19 c19 k19, hasM_mk a20 i20 l20 c20 k20, ⟨f21, DD, _, _, _, _, _, _, _, _, _, _, _, _, _, l21, c21, k21, ⟨mkCP, a21, i21, kcCP⟩, lDD⟩, ⟨ow_pg, hdCP, ow_ha, ow_hn, ow_ht, ow_hm⟩, ow_is⟩
  exact ⟨_, fun s v => .of_eq rfl, fun base _ _ => law_fn (fun_mk (st := s_law) l16 c16 k16) T⟩
theorem walk {l : PySem.W.OpenLaw} {q : Program} {loose : List Str} {XP : (Str → Option Value) → Heap → Prop} {YP : World → Heap → Prop} {d : DefRec} {K : Params → PySem.W.Frag} (hn : l.most = some 63) (hdf : d.params.defaults = [])
    (hY : ∀ (w : World) (h : Heap), YP w h → (K w.params).In h)
    (F : ∀ (w : World) (mg : Str → Option Value) (fa : Addr) (h : Heap), (K w.params).In h → h.Ns mainGlobals mg → mg d.name = some (.ref fa) →
      ∃ fd : FuncData, (∀ (s : Shared) (u : Value), BindsTo s fd ⟨[u], []⟩ [("_law_script", u)]) ∧ ∀ base : Heap, (K w.params).In base → base.Ns mainGlobals mg → FnOk l.prog w (K w.params) mg base CX0 5 fa fd ["_law_script"] (spLaw (K w.params))) :
    PySem.W.WalkO q loose XP YP l.row.toRowW d [] (fun f vs => PySem.call f vs) :=
  L2.walk_of (n := 63) (k := 5) (x := "_law_script") (CX := fun _ => CX0) (sp := fun w => spLaw (K w.params)) hn (by decide) hdf ⟨rfl, by decide, by decide⟩ hY F (fun _ _ a ns hl _ hS => ⟨a, ns, rfl, hS, hl, fun _ => rfl⟩) fun _ _ _ _ _ z => z
end K63
open PySem PySem.W PyProof.Rows
set_option maxRecDepth 100000 in
set_option maxHeartbeats 0 in
theorem PySem.Challenge.cw_bundlehouse_k63_a_walk_of_packs_holds : PySem.Challenge.rw_bundlehouse_k63_a_walk_of_packs.Holds := by
  w_on
  refine HD.head_of (l := PySem.Challenge.rw_bundlehouse_k63_a_walk_of_packs) (q := HD.cutTo PySem.Challenge.rw_bundlehouse_k63_a_walk_of_packs.prog [23]) (K := K63.heapK) (as := K63.heapA) (N := 2746) K63.heapE K63.said K63.top_run (by rfl) (by rfl) (by rfl) (by rfl) (by decide +kernel) ⟨rfl, rfl, rfl, rfl, rfl, by decide +kernel⟩ ?hw ?hc
  (case hw => w_witness2)
  k_fill
  refine K63.walk (l := PySem.Challenge.rw_bundlehouse_k63_a_walk_of_packs) rfl rfl (fun w h Y => PySem.W.kIn_of Y) ?F
  case F =>
    intro w mg fa h KX G hmg
    refine' K63.all_mk KX G hmg ?a0 ?l0 ?c0 ?k0 ?a1 ?l1 ?c1 ?k1 ?a2 ?l2 ?c2 ?k2 ?a3 ?l3 ?c3 ?k3 ?a4 ?l4 ?c4 ?k4 ?a5 ?l5 ?c5 ?k5 ?a6 ?l6 ?c6 ?k6 ?a7 ?l7 ?c7 ?k7 ?a8 ?l8 ?c8 ?k8 ?a9 ?l9 ?c9 ?k9 ?a10 ?l10 ?c10 ?k10 ?a11 ?l11 ?c11 ?k11 ?a12 ?l12 ?c12 ?k12 ?a13 ?l13 ?c13 ?k13 ?a14 ?l14 ?c14 ?k14 ?a15 ?l15 ?c15 ?k15 ?a16 ?l16 ?c16 ?k16 ?a17 ?i17 ?l17 ?c17 ?k17 ?a18 ?i18 ?l18 ?c18 ?k18 ?a19 ?i19 ?l19 ?c19 ?k19 ?a20 ?i20 ?l20 ?c20 ?k20 ?a21 ?i21 ?l21 ?c21 ?k21 ?lDD ?gCP ?pgCP ?hdCP ?poCP ?saCP ?mkCP ?kcCP ?gCW ?nPblocks ?nPloads ?nPahead ?z0 ?z1 ?z2 ?z3 ?z4 ?z5 ?z6 ?z7 ?z8 ?z9 ?ow_pg ?ow_ha ?ow_hn ?ow_ht ?ow_hm ?ow_is
    (case gCP => k_is)
    (case gCW => k_is)
    (case a0 => k_is)
    (case l0 => k_is)
    (case c0 => k_is)
    (case k0 => k_is)
    (case a1 => k_is)
    (case l1 => k_is)
    (case c1 => k_is)
    (case k1 => k_is)
    (case a2 => k_is)
    (case l2 => k_is)
    (case c2 => k_is)
    (case k2 => k_is)
    (case a3 => k_is)
    (case l3 => k_is)
    (case c3 => k_is)
    (case k3 => k_is)
    (case a4 => k_is)
    (case l4 => k_is)
    (case c4 => k_is)
    (case k4 => k_is)
    (case a5 => k_is)
    (case l5 => k_is)
    (case c5 => k_is)
    (case k5 => k_is)
    (case a6 => k_is)
    (case l6 => k_is)
    (case c6 => k_is)
    (case k6 => k_is)
    (case a7 => k_is)
    (case l7 => k_is)
    (case c7 => k_is)
    (case k7 => k_is)
    (case a8 => k_is)
    (case l8 => k_is)
    (case c8 => k_is)
    (case k8 => k_is)
    (case a9 => k_is)
    (case l9 => k_is)
    (case c9 => k_is)
    (case k9 => k_is)
    (case a10 => k_is)
    (case l10 => k_is)
    (case c10 => k_is)
    (case k10 => k_is)
    (case a11 => k_is)
    (case l11 => k_is)
    (case c11 => k_is)
    (case k11 => k_is)
    (case a12 => k_is)
    (case l12 => k_is)
    (case c12 => k_is)
    (case k12 => k_is)
    (case a13 => k_is)
    (case l13 => k_is)
    (case c13 => k_is)
    (case k13 => k_is)
    (case a14 => k_is)
    (case l14 => k_is)
    (case c14 => k_is)
    (case k14 => k_is)
    (case a15 => k_is)
    (case l15 => k_is)
    (case c15 => k_is)
    (case k15 => k_is)
    (case a16 => k_is)
    (case l16 => k_is)
    (case c16 => k_is)
    (case k16 => k_is)
    (case a17 => k_is)
    (case i17 => k_is)
    (case l17 => k_is)
    (case c17 => k_is)
    (case k17 => k_is)
    (case a18 => k_is)
    (case i18 => k_is)
    (case l18 => k_is)
    (case c18 => k_is)
    (case k18 => k_is)
    (case a19 => k_is)
    (case i19 => k_is)
    (case l19 => k_is)
    (case c19 => k_is)
    (case k19 => k_is)
    (case a20 => k_is)
    (case i20 => k_is)
    (case l20 => k_is)
    (case c20 => k_is)
    (case k20 => k_is)
    (case a21 => k_is)
    (case i21 => k_is)
    (case l21 => k_is)
    (case c21 => k_is)
    (case k21 => k_is)
    (case lDD => k_is)
    (case pgCP => k_is)
    (case hdCP => k_is)
    (case poCP => k_is)
    (case saCP => k_is)
    (case mkCP => k_is)
    (case kcCP => k_is)
    (case nPblocks => k_is)
    (case nPloads => k_is)
    (case nPahead => k_is)
    (case z0 => k_is)
    (case z1 => k_is)
    (case z2 => k_is)
    (case z3 => k_is)
    (case z4 => k_is)
    (case z5 => k_is)
    (case z6 => k_is)
    (case z7 => k_is)
    (case z8 => k_is)
    (case z9 => k_is)
    (case ow_pg => k_is)
    (case ow_ha => k_is)
    (case ow_hn => k_is)
    (case ow_ht => k_is)
    (case ow_hm => k_is)
    (case ow_is => kit_is)