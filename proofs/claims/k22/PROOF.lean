import PyProof.Rows.All
import Wide.All
import OpenK.AllK
import Wide.FinOn
import Lean
import PyProof.EqAt
import PyProof.EqKinds
import PyProof.TupleCall
import PySem.Challenge.RW_bundlehouse_k22_faults_in_a_part
set_option Elab.async false
set_option linter.all false
set_option maxRecDepth 100000
namespace HD
open PySem PySem.W
noncomputable abbrev cutTo (p : Program) (ks : List Nat) : Program :=
  { p with main := { p.main with body := ks.filterMap fun i => p.main.body[i]? } }
noncomputable abbrev en (P : Params) (x : Str) (t : Tok) (v : Value) : DictEntry := ⟨PyData.keyHash P x, .str x t, v⟩
noncomputable abbrev tp (p : Program) (i : Nat) : Stmt := p.main.body.getD i (.Pass ⟨0, 0, 0, 0⟩)
noncomputable def inC (s : Stmt) (i : Nat) : Stmt := match s with
  | .ClassDef _ _ _ b _ _ _ _ _ _ _ => b.getD i (.Pass ⟨0, 0, 0, 0⟩)
  | _ => .Pass ⟨0, 0, 0, 0⟩
noncomputable def dA (s : Stmt) : Arguments := match s with
  | .FunctionDef _ a _ _ _ _ _ _ _ _ => a
  | _ => ⟨[], [], none, [], [], none, []⟩
noncomputable def dB (s : Stmt) : List Stmt := match s with
  | .FunctionDef _ _ b _ _ _ _ _ _ _ => b
  | _ => []
noncomputable def dS (s : Stmt) : Scope := match s with
  | .FunctionDef _ _ _ _ _ _ c _ _ _ => c
  | _ => default
theorem left_of {p q : Program} {Xt : Shared → Bool} {α : Type} {Yf : Shared → α} {Ya : World → α} {N : Nat}
    (h1 : ∀ w, ((openEnds treeTable p w N).map fun s => (openSeen q [] (importedModules p.main.body) Xt true s).1) = some (openGood q []).1)
    (h2 : ∀ w, ((openEnds treeTable p w N).map fun s => ((openSeen q [] (importedModules p.main.body) Xt true s).2.1, (openSeen q [] (importedModules p.main.body) Xt true s).2.2.1)) = some ((openGood q []).2.1, (openGood q []).2.2.1))
    (h3 : ∀ w, ((openEnds treeTable p w N).map fun s => (openSeen q [] (importedModules p.main.body) Xt true s).2.2.2) = some (openGood q []).2.2.2)
    (h4 : ∀ w, (openEnds treeTable p w N).map Yf = some (Ya w)) : LeftO p q [] Xt Yf Ya N := by
  intro w
  have a1 := h1 w
  have a2 := h2 w
  have a3 := h3 w
  have a4 := h4 w
  generalize openEnds treeTable p w N = r at a1 a2 a3 a4 ⊢
  cases r with
  | none => cases a4
  | some s =>
    have b1 := Option.some.inj a1
    have b2 := Prod.mk.inj (Option.some.inj a2)
    have b3 := Option.some.inj a3
    have b4 := Option.some.inj a4
    have e : openSeen q [] (importedModules p.main.body) Xt true s = openGood q [] := Prod.ext b1 (Prod.ext b2.1 (Prod.ext b2.2 b3))
    show some (openSeen q [] (importedModules p.main.body) Xt true s, Yf s) = some (openGood q [], Ya w)
    rw [e, b4]
theorem head_of {l : OpenLaw} {q : Program} {K : Params → Frag} {as : List Addr} {N : Nat} {d : DefRec} {kwd : List (Str × Expr)}
    (e : ∀ P, as = (K P).map (·.1)) (said : l.wellSaid = true)
    (hl : LeftO l.row.prog q [] (fun s => xlAt q [] s && recOk (RowW.records l.row.toRowW) s) (kHook K as e).obs (kHook K as e).val N)
    (h1 : defOf q l.row.name = some (d, kwd)) (h2 : l.row.prog.theDef l.row.name = some (d.params, d.body, d.scope))
    (h3 : kwWritten? d.params.kwonlyargs d.params.kw_defaults = some kwd) (h4 : (!l.row.writes || l.row.records.isEmpty) = true)
    (h5 : (chainsOk q && opensWell l.row.prog && (frees l.row.toRowW && l.row.within.isEmpty)) = true)
    (h6 : l.row.prog.bare) (h7 : l.row.toRowW.promised)
    (go : WalkO q [] (XL q []) (kHook K as e).says l.row.toRowW d kwd fun f vs => PySem.call f vs) : l.Holds := by
  refine holds_law said fun sd => ?_
  refine holds_open (XP := XL q []) (YP := (kHook K as e).says) hl (kHook K as e).of (kHook K as e).keeps ?_ XL.keeps h1 h2 h3 ?_ h4 sd h5 h6 h7 go
  · intro s x
    exact xl_of s (Bool.and_eq_true_iff.mp x).1
  · intro s x
    exact recFacts_of (Bool.and_eq_true_iff.mp x).2
end HD
set_option Elab.async false
set_option linter.all false
set_option maxRecDepth 100000
namespace K22
open PySem PySem.W
set_option maxHeartbeats 0
noncomputable def heapK (P : Params) : PySem.W.Frag :=
  (nat_lit 2, { cls := Value.none, data := Data.dict #[] }) ::
  (nat_lit 3, { cls := Value.type "dict", data := Data.dict #[HD.en P "__name__" 165 (Value.str ("law_bundlehouse_k22_faults_in_a_part") 585), HD.en P "__doc__" 166 (Value.none), HD.en P "__package__" 167 (Value.none), HD.en P "__loader__" 168 (Value.builtin "__main__.__loader__#opaque"), HD.en P "__spec__" 169 (Value.none), HD.en P "__annotations__" 170 (Value.ref 6), HD.en P "__builtins__" 171 (Value.ref 4), HD.en P "__file__" 173 (Value.str ("/claim/cut.py") 172), HD.en P "__cached__" 174 (Value.none), HD.en P "words_of" 196 (Value.ref 21), HD.en P "pair_words" 206 (Value.ref 28), HD.en P "sum_words" 216 (Value.ref 35), HD.en P "when_words" 223 (Value.ref 42), HD.en P "read_names" 231 (Value.ref 49), HD.en P "sum_names" 242 (Value.ref 56), HD.en P "when_names" 249 (Value.ref 63), HD.en P "placed_rows" 263 (Value.ref 70), HD.en P "given_owns" 274 (Value.ref 77), HD.en P "links" 288 (Value.ref 84), HD.en P "makers" 301 (Value.ref 91), HD.en P "made" 312 (Value.ref 98), HD.en P "run" 323 (Value.ref 105), HD.en P "Walk" 386 (Value.ref 150), HD.en P "PartsWalk" 427 (Value.ref 183), HD.en P "Going" 584 (Value.ref 286), HD.en P "_law_cell_at" 594 (Value.ref 297), HD.en P "_law_whole" 601 (Value.ref 304), HD.en P "_law_name" 611 (Value.ref 311), HD.en P "_law_number" 618 (Value.ref 318), HD.en P "_law_kinds" 626 (Value.ref 325), HD.en P "_law_terms" 638 (Value.ref 332), HD.en P "_law_row" 650 (Value.ref 339), HD.en P "_law_words" 656 (Value.ref 344), HD.en P "_law_total" 667 (Value.ref 351), HD.en P "_law_done" 681 (Value.ref 358), HD.en P "law" 687 (Value.ref 363)] 36 }) ::
  (nat_lit 15, { cls := Value.type "tuple", data := Data.seq #[] }) ::
  (nat_lit 17, { cls := Value.type "tuple", data := Data.seq #[Value.str ("row") 192, Value.str ("kind") 193] }) ::
  (nat_lit 18, { cls := Value.type "tuple", data := Data.seq #[] }) ::
  (nat_lit 20, { cls := Value.type "code", data := Data.fields #[Value.str ("words_of") 189, Value.str ("words_of") 190, Value.str ("/claim/cut.py") 191, Value.int 2 0, Value.int 1 0, Value.int 0 0, Value.int 0 0, Value.int 3 0, Value.ref 15, Value.bool true, Value.int 181 0, Value.ref 16, Value.none, Value.ref 17, Value.ref 18, Value.ref 19, Value.int 194 0, Value.int 2 0, Value.str ("/claim/cut.py") 195] }) ::
  (nat_lit 21, ⟨Value.type "function", none, .func (PySem.W.fnOf "words_of" "words_of" (HD.dA (HD.tp PySem.Challenge.pw_bundlehouse_k22_faults_in_a_part 1)) (HD.dB (HD.tp PySem.Challenge.pw_bundlehouse_k22_faults_in_a_part 1)) (HD.dS (HD.tp PySem.Challenge.pw_bundlehouse_k22_faults_in_a_part 1)) (Value.none) (Value.none) (Value.none) (Value.str ("bundlehouse.rows") 187) (none) (Value.ref 20) (Value.none)), #[]⟩) ::
  (nat_lit 22, { cls := Value.type "tuple", data := Data.seq #[] }) ::
  (nat_lit 24, { cls := Value.type "tuple", data := Data.seq #[Value.str ("pairs") 200, Value.str ("words") 201, Value.str ("given") 202, Value.str ("own") 203] }) ::
  (nat_lit 25, { cls := Value.type "tuple", data := Data.seq #[] }) ::
  (nat_lit 27, { cls := Value.type "code", data := Data.fields #[Value.str ("pair_words") 197, Value.str ("pair_words") 198, Value.str ("/claim/cut.py") 199, Value.int 17 0, Value.int 1 0, Value.int 0 0, Value.int 0 0, Value.int 3 0, Value.ref 22, Value.bool true, Value.int 181 0, Value.ref 23, Value.none, Value.ref 24, Value.ref 25, Value.ref 26, Value.int 204 0, Value.int 17 0, Value.str ("/claim/cut.py") 205] }) ::
  (nat_lit 28, ⟨Value.type "function", none, .func (PySem.W.fnOf "pair_words" "pair_words" (HD.dA (HD.tp PySem.Challenge.pw_bundlehouse_k22_faults_in_a_part 2)) (HD.dB (HD.tp PySem.Challenge.pw_bundlehouse_k22_faults_in_a_part 2)) (HD.dS (HD.tp PySem.Challenge.pw_bundlehouse_k22_faults_in_a_part 2)) (Value.none) (Value.none) (Value.none) (Value.str ("bundlehouse.rows") 187) (none) (Value.ref 27) (Value.none)), #[]⟩) ::
  (nat_lit 29, { cls := Value.type "tuple", data := Data.seq #[] }) ::
  (nat_lit 31, { cls := Value.type "tuple", data := Data.seq #[Value.str ("terms") 210, Value.str ("words") 211, Value.str ("sign") 212, Value.str ("thing") 213] }) ::
  (nat_lit 32, { cls := Value.type "tuple", data := Data.seq #[] }) ::
  (nat_lit 34, { cls := Value.type "code", data := Data.fields #[Value.str ("sum_words") 207, Value.str ("sum_words") 208, Value.str ("/claim/cut.py") 209, Value.int 22 0, Value.int 1 0, Value.int 0 0, Value.int 0 0, Value.int 3 0, Value.ref 29, Value.bool true, Value.int 181 0, Value.ref 30, Value.none, Value.ref 31, Value.ref 32, Value.ref 33, Value.int 214 0, Value.int 22 0, Value.str ("/claim/cut.py") 215] }) ::
  (nat_lit 35, ⟨Value.type "function", none, .func (PySem.W.fnOf "sum_words" "sum_words" (HD.dA (HD.tp PySem.Challenge.pw_bundlehouse_k22_faults_in_a_part 3)) (HD.dB (HD.tp PySem.Challenge.pw_bundlehouse_k22_faults_in_a_part 3)) (HD.dS (HD.tp PySem.Challenge.pw_bundlehouse_k22_faults_in_a_part 3)) (Value.none) (Value.none) (Value.none) (Value.str ("bundlehouse.rows") 187) (none) (Value.ref 34) (Value.none)), #[]⟩) ::
  (nat_lit 36, { cls := Value.type "tuple", data := Data.seq #[] }) ::
  (nat_lit 38, { cls := Value.type "tuple", data := Data.seq #[Value.str ("when") 220] }) ::
  (nat_lit 39, { cls := Value.type "tuple", data := Data.seq #[] }) ::
  (nat_lit 41, { cls := Value.type "code", data := Data.fields #[Value.str ("when_words") 217, Value.str ("when_words") 218, Value.str ("/claim/cut.py") 219, Value.int 29 0, Value.int 1 0, Value.int 0 0, Value.int 0 0, Value.int 3 0, Value.ref 36, Value.bool true, Value.int 181 0, Value.ref 37, Value.none, Value.ref 38, Value.ref 39, Value.ref 40, Value.int 221 0, Value.int 29 0, Value.str ("/claim/cut.py") 222] }) ::
  (nat_lit 42, ⟨Value.type "function", none, .func (PySem.W.fnOf "when_words" "when_words" (HD.dA (HD.tp PySem.Challenge.pw_bundlehouse_k22_faults_in_a_part 4)) (HD.dB (HD.tp PySem.Challenge.pw_bundlehouse_k22_faults_in_a_part 4)) (HD.dS (HD.tp PySem.Challenge.pw_bundlehouse_k22_faults_in_a_part 4)) (Value.none) (Value.none) (Value.none) (Value.str ("bundlehouse.rows") 187) (none) (Value.ref 41) (Value.none)), #[]⟩) ::
  (nat_lit 43, { cls := Value.type "tuple", data := Data.seq #[] }) ::
  (nat_lit 45, { cls := Value.type "tuple", data := Data.seq #[Value.str ("row") 227, Value.str ("kind") 228] }) ::
  (nat_lit 46, { cls := Value.type "tuple", data := Data.seq #[] }) ::
  (nat_lit 48, { cls := Value.type "code", data := Data.fields #[Value.str ("read_names") 224, Value.str ("read_names") 225, Value.str ("/claim/cut.py") 226, Value.int 33 0, Value.int 1 0, Value.int 0 0, Value.int 0 0, Value.int 3 0, Value.ref 43, Value.bool true, Value.int 181 0, Value.ref 44, Value.none, Value.ref 45, Value.ref 46, Value.ref 47, Value.int 229 0, Value.int 33 0, Value.str ("/claim/cut.py") 230] }) ::
  (nat_lit 49, ⟨Value.type "function", none, .func (PySem.W.fnOf "read_names" "read_names" (HD.dA (HD.tp PySem.Challenge.pw_bundlehouse_k22_faults_in_a_part 5)) (HD.dB (HD.tp PySem.Challenge.pw_bundlehouse_k22_faults_in_a_part 5)) (HD.dS (HD.tp PySem.Challenge.pw_bundlehouse_k22_faults_in_a_part 5)) (Value.none) (Value.none) (Value.none) (Value.str ("bundlehouse.rows") 187) (none) (Value.ref 48) (Value.none)), #[]⟩) ::
  (nat_lit 50, { cls := Value.type "tuple", data := Data.seq #[] }) ::
  (nat_lit 52, { cls := Value.type "tuple", data := Data.seq #[Value.str ("terms") 235, Value.str ("first") 236, Value.str ("names") 237, Value.str ("place") 238, Value.str ("term") 239] }) ::
  (nat_lit 53, { cls := Value.type "tuple", data := Data.seq #[] }) ::
  (nat_lit 55, { cls := Value.type "code", data := Data.fields #[Value.str ("sum_names") 232, Value.str ("sum_names") 233, Value.str ("/claim/cut.py") 234, Value.int 44 0, Value.int 2 0, Value.int 0 0, Value.int 0 0, Value.int 3 0, Value.ref 50, Value.bool true, Value.int 181 0, Value.ref 51, Value.none, Value.ref 52, Value.ref 53, Value.ref 54, Value.int 240 0, Value.int 44 0, Value.str ("/claim/cut.py") 241] }) ::
  (nat_lit 56, ⟨Value.type "function", none, .func (PySem.W.fnOf "sum_names" "sum_names" (HD.dA (HD.tp PySem.Challenge.pw_bundlehouse_k22_faults_in_a_part 6)) (HD.dB (HD.tp PySem.Challenge.pw_bundlehouse_k22_faults_in_a_part 6)) (HD.dS (HD.tp PySem.Challenge.pw_bundlehouse_k22_faults_in_a_part 6)) (Value.none) (Value.none) (Value.none) (Value.str ("bundlehouse.rows") 187) (none) (Value.ref 55) (Value.none)), #[]⟩) ::
  (nat_lit 57, { cls := Value.type "tuple", data := Data.seq #[] }) ::
  (nat_lit 59, { cls := Value.type "tuple", data := Data.seq #[Value.str ("row") 246] }) ::
  (nat_lit 60, { cls := Value.type "tuple", data := Data.seq #[] }) ::
  (nat_lit 62, { cls := Value.type "code", data := Data.fields #[Value.str ("when_names") 243, Value.str ("when_names") 244, Value.str ("/claim/cut.py") 245, Value.int 50 0, Value.int 1 0, Value.int 0 0, Value.int 0 0, Value.int 3 0, Value.ref 57, Value.bool true, Value.int 181 0, Value.ref 58, Value.none, Value.ref 59, Value.ref 60, Value.ref 61, Value.int 247 0, Value.int 50 0, Value.str ("/claim/cut.py") 248] }) ::
  (nat_lit 63, ⟨Value.type "function", none, .func (PySem.W.fnOf "when_names" "when_names" (HD.dA (HD.tp PySem.Challenge.pw_bundlehouse_k22_faults_in_a_part 7)) (HD.dB (HD.tp PySem.Challenge.pw_bundlehouse_k22_faults_in_a_part 7)) (HD.dS (HD.tp PySem.Challenge.pw_bundlehouse_k22_faults_in_a_part 7)) (Value.none) (Value.none) (Value.none) (Value.str ("bundlehouse.rows") 187) (none) (Value.ref 62) (Value.none)), #[]⟩) ::
  (nat_lit 64, { cls := Value.type "tuple", data := Data.seq #[] }) ::
  (nat_lit 66, { cls := Value.type "tuple", data := Data.seq #[Value.str ("parts") 255, Value.str ("found") 256, Value.str ("part") 257, Value.str ("rows") 258, Value.str ("number") 259, Value.str ("row") 260] }) ::
  (nat_lit 67, { cls := Value.type "tuple", data := Data.seq #[] }) ::
  (nat_lit 69, { cls := Value.type "code", data := Data.fields #[Value.str ("placed_rows") 252, Value.str ("placed_rows") 253, Value.str ("/claim/cut.py") 254, Value.int 55 0, Value.int 1 0, Value.int 0 0, Value.int 0 0, Value.int 3 0, Value.ref 64, Value.bool true, Value.int 181 0, Value.ref 65, Value.none, Value.ref 66, Value.ref 67, Value.ref 68, Value.int 261 0, Value.int 55 0, Value.str ("/claim/cut.py") 262] }) ::
  (nat_lit 70, ⟨Value.type "function", none, .func (PySem.W.fnOf "placed_rows" "placed_rows" (HD.dA (HD.tp PySem.Challenge.pw_bundlehouse_k22_faults_in_a_part 9)) (HD.dB (HD.tp PySem.Challenge.pw_bundlehouse_k22_faults_in_a_part 9)) (HD.dS (HD.tp PySem.Challenge.pw_bundlehouse_k22_faults_in_a_part 9)) (Value.none) (Value.none) (Value.none) (Value.str ("bundlehouse.net") 250) (none) (Value.ref 69) (Value.none)), #[]⟩) ::
  (nat_lit 71, { cls := Value.type "tuple", data := Data.seq #[] }) ::
  (nat_lit 73, { cls := Value.type "tuple", data := Data.seq #[Value.str ("parts") 267, Value.str ("owns") 268, Value.str ("part") 269, Value.str ("number") 270, Value.str ("row") 271] }) ::
  (nat_lit 74, { cls := Value.type "tuple", data := Data.seq #[] }) ::
  (nat_lit 76, { cls := Value.type "code", data := Data.fields #[Value.str ("given_owns") 264, Value.str ("given_owns") 265, Value.str ("/claim/cut.py") 266, Value.int 61 0, Value.int 1 0, Value.int 0 0, Value.int 0 0, Value.int 3 0, Value.ref 71, Value.bool true, Value.int 181 0, Value.ref 72, Value.none, Value.ref 73, Value.ref 74, Value.ref 75, Value.int 272 0, Value.int 61 0, Value.str ("/claim/cut.py") 273] }) ::
  (nat_lit 77, ⟨Value.type "function", none, .func (PySem.W.fnOf "given_owns" "given_owns" (HD.dA (HD.tp PySem.Challenge.pw_bundlehouse_k22_faults_in_a_part 10)) (HD.dB (HD.tp PySem.Challenge.pw_bundlehouse_k22_faults_in_a_part 10)) (HD.dS (HD.tp PySem.Challenge.pw_bundlehouse_k22_faults_in_a_part 10)) (Value.none) (Value.none) (Value.none) (Value.str ("bundlehouse.net") 250) (none) (Value.ref 76) (Value.none)), #[]⟩) ::
  (nat_lit 78, { cls := Value.type "tuple", data := Data.seq #[] }) ::
  (nat_lit 80, { cls := Value.type "tuple", data := Data.seq #[Value.str ("parts") 278, Value.str ("owns") 279, Value.str ("onward") 280, Value.str ("part") 281, Value.str ("number") 282, Value.str ("row") 283, Value.str ("given") 284, Value.str ("own") 285] }) ::
  (nat_lit 81, { cls := Value.type "tuple", data := Data.seq #[] }) ::
  (nat_lit 83, { cls := Value.type "code", data := Data.fields #[Value.str ("links") 275, Value.str ("links") 276, Value.str ("/claim/cut.py") 277, Value.int 67 0, Value.int 1 0, Value.int 0 0, Value.int 0 0, Value.int 3 0, Value.ref 78, Value.bool true, Value.int 181 0, Value.ref 79, Value.none, Value.ref 80, Value.ref 81, Value.ref 82, Value.int 286 0, Value.int 67 0, Value.str ("/claim/cut.py") 287] }) ::
  (nat_lit 84, ⟨Value.type "function", none, .func (PySem.W.fnOf "links" "links" (HD.dA (HD.tp PySem.Challenge.pw_bundlehouse_k22_faults_in_a_part 11)) (HD.dB (HD.tp PySem.Challenge.pw_bundlehouse_k22_faults_in_a_part 11)) (HD.dS (HD.tp PySem.Challenge.pw_bundlehouse_k22_faults_in_a_part 11)) (Value.none) (Value.none) (Value.none) (Value.str ("bundlehouse.net") 250) (none) (Value.ref 83) (Value.none)), #[]⟩) ::
  (nat_lit 85, { cls := Value.type "tuple", data := Data.seq #[] }) ::
  (nat_lit 87, { cls := Value.type "tuple", data := Data.seq #[Value.str ("parts") 292, Value.str ("found") 293, Value.str ("onward") 294, Value.str ("start") 295, Value.str ("way") 296, Value.str ("here") 297, Value.str ("name") 298] }) ::
  (nat_lit 88, { cls := Value.type "tuple", data := Data.seq #[] }) ::
  (nat_lit 90, { cls := Value.type "code", data := Data.fields #[Value.str ("makers") 289, Value.str ("makers") 290, Value.str ("/claim/cut.py") 291, Value.int 75 0, Value.int 1 0, Value.int 0 0, Value.int 0 0, Value.int 3 0, Value.ref 85, Value.bool true, Value.int 181 0, Value.ref 86, Value.none, Value.ref 87, Value.ref 88, Value.ref 89, Value.int 299 0, Value.int 75 0, Value.str ("/claim/cut.py") 300] }) ::
  (nat_lit 91, ⟨Value.type "function", none, .func (PySem.W.fnOf "makers" "makers" (HD.dA (HD.tp PySem.Challenge.pw_bundlehouse_k22_faults_in_a_part 12)) (HD.dB (HD.tp PySem.Challenge.pw_bundlehouse_k22_faults_in_a_part 12)) (HD.dS (HD.tp PySem.Challenge.pw_bundlehouse_k22_faults_in_a_part 12)) (Value.none) (Value.none) (Value.none) (Value.str ("bundlehouse.net") 250) (none) (Value.ref 90) (Value.none)), #[]⟩) ::
  (nat_lit 92, { cls := Value.type "tuple", data := Data.seq #[] }) ::
  (nat_lit 94, { cls := Value.type "tuple", data := Data.seq #[Value.str ("parts") 305, Value.str ("found") 306, Value.str ("part") 307, Value.str ("number") 308, Value.str ("row") 309] }) ::
  (nat_lit 95, { cls := Value.type "tuple", data := Data.seq #[] }) ::
  (nat_lit 97, { cls := Value.type "code", data := Data.fields #[Value.str ("made") 302, Value.str ("made") 303, Value.str ("/claim/cut.py") 304, Value.int 87 0, Value.int 1 0, Value.int 0 0, Value.int 0 0, Value.int 3 0, Value.ref 92, Value.bool true, Value.int 181 0, Value.ref 93, Value.none, Value.ref 94, Value.ref 95, Value.ref 96, Value.int 310 0, Value.int 87 0, Value.str ("/claim/cut.py") 311] }) ::
  (nat_lit 98, ⟨Value.type "function", none, .func (PySem.W.fnOf "made" "made" (HD.dA (HD.tp PySem.Challenge.pw_bundlehouse_k22_faults_in_a_part 13)) (HD.dB (HD.tp PySem.Challenge.pw_bundlehouse_k22_faults_in_a_part 13)) (HD.dS (HD.tp PySem.Challenge.pw_bundlehouse_k22_faults_in_a_part 13)) (Value.none) (Value.none) (Value.none) (Value.str ("bundlehouse.net") 250) (none) (Value.ref 97) (Value.none)), #[]⟩) ::
  (nat_lit 99, { cls := Value.type "tuple", data := Data.seq #[] }) ::
  (nat_lit 101, { cls := Value.type "tuple", data := Data.seq #[Value.str ("parts") 318, Value.str ("root") 319, Value.str ("numbers") 320] }) ::
  (nat_lit 102, { cls := Value.type "tuple", data := Data.seq #[] }) ::
  (nat_lit 104, { cls := Value.type "code", data := Data.fields #[Value.str ("run") 315, Value.str ("run") 316, Value.str ("/claim/cut.py") 317, Value.int 94 0, Value.int 3 0, Value.int 0 0, Value.int 0 0, Value.int 3 0, Value.ref 99, Value.bool true, Value.int 181 0, Value.ref 100, Value.none, Value.ref 101, Value.ref 102, Value.ref 103, Value.int 321 0, Value.int 94 0, Value.str ("/claim/cut.py") 322] }) ::
  (nat_lit 105, ⟨Value.type "function", none, .func (PySem.W.fnOf "run" "run" (HD.dA (HD.tp PySem.Challenge.pw_bundlehouse_k22_faults_in_a_part 15)) (HD.dB (HD.tp PySem.Challenge.pw_bundlehouse_k22_faults_in_a_part 15)) (HD.dS (HD.tp PySem.Challenge.pw_bundlehouse_k22_faults_in_a_part 15)) (Value.none) (Value.none) (Value.none) (Value.str ("bundlehouse.run") 313) (none) (Value.ref 104) (Value.none)), #[]⟩) ::
  (nat_lit 113, { cls := Value.type "tuple", data := Data.seq #[] }) ::
  (nat_lit 115, { cls := Value.type "tuple", data := Data.seq #[Value.str ("self") 339, Value.str ("part") 340] }) ::
  (nat_lit 116, { cls := Value.type "tuple", data := Data.seq #[] }) ::
  (nat_lit 118, { cls := Value.type "code", data := Data.fields #[Value.str ("rows_of") 336, Value.str ("Walk.rows_of") 337, Value.str ("/claim/cut.py") 338, Value.int 98 0, Value.int 2 0, Value.int 0 0, Value.int 0 0, Value.int 3 0, Value.ref 113, Value.bool true, Value.int 181 0, Value.ref 114, Value.none, Value.ref 115, Value.ref 116, Value.ref 117, Value.int 341 0, Value.int 98 0, Value.str ("/claim/cut.py") 342] }) ::
  (nat_lit 120, { cls := Value.type "tuple", data := Data.seq #[] }) ::
  (nat_lit 122, { cls := Value.type "tuple", data := Data.seq #[Value.str ("self") 347, Value.str ("part") 348, Value.str ("name") 349] }) ::
  (nat_lit 123, { cls := Value.type "tuple", data := Data.seq #[] }) ::
  (nat_lit 125, { cls := Value.type "code", data := Data.fields #[Value.str ("key_of") 344, Value.str ("Walk.key_of") 345, Value.str ("/claim/cut.py") 346, Value.int 101 0, Value.int 3 0, Value.int 0 0, Value.int 0 0, Value.int 3 0, Value.ref 120, Value.bool true, Value.int 181 0, Value.ref 121, Value.none, Value.ref 122, Value.ref 123, Value.ref 124, Value.int 350 0, Value.int 101 0, Value.str ("/claim/cut.py") 351] }) ::
  (nat_lit 127, { cls := Value.type "tuple", data := Data.seq #[] }) ::
  (nat_lit 129, { cls := Value.type "tuple", data := Data.seq #[Value.str ("self") 356, Value.str ("part") 357] }) ::
  (nat_lit 130, { cls := Value.type "tuple", data := Data.seq #[] }) ::
  (nat_lit 132, { cls := Value.type "code", data := Data.fields #[Value.str ("loads_of") 353, Value.str ("Walk.loads_of") 354, Value.str ("/claim/cut.py") 355, Value.int 104 0, Value.int 2 0, Value.int 0 0, Value.int 0 0, Value.int 3 0, Value.ref 127, Value.bool true, Value.int 181 0, Value.ref 128, Value.none, Value.ref 129, Value.ref 130, Value.ref 131, Value.int 358 0, Value.int 104 0, Value.str ("/claim/cut.py") 359] }) ::
  (nat_lit 133, ⟨Value.type "function", none, .func (PySem.W.fnOf "loads_of" "Walk.loads_of" (HD.dA (HD.inC (HD.tp PySem.Challenge.pw_bundlehouse_k22_faults_in_a_part 16) 2)) (HD.dB (HD.inC (HD.tp PySem.Challenge.pw_bundlehouse_k22_faults_in_a_part 16) 2)) (HD.dS (HD.inC (HD.tp PySem.Challenge.pw_bundlehouse_k22_faults_in_a_part 16) 2)) (Value.none) (Value.none) (Value.none) (Value.str ("bundlehouse.run") 313) (none) (Value.ref 132) (Value.none)), #[]⟩) ::
  (nat_lit 134, { cls := Value.type "tuple", data := Data.seq #[] }) ::
  (nat_lit 136, { cls := Value.type "tuple", data := Data.seq #[Value.str ("self") 364, Value.str ("root") 365] }) ::
  (nat_lit 137, { cls := Value.type "tuple", data := Data.seq #[] }) ::
  (nat_lit 139, { cls := Value.type "code", data := Data.fields #[Value.str ("ahead_of") 361, Value.str ("Walk.ahead_of") 362, Value.str ("/claim/cut.py") 363, Value.int 107 0, Value.int 2 0, Value.int 0 0, Value.int 0 0, Value.int 3 0, Value.ref 134, Value.bool true, Value.int 181 0, Value.ref 135, Value.none, Value.ref 136, Value.ref 137, Value.ref 138, Value.int 366 0, Value.int 107 0, Value.str ("/claim/cut.py") 367] }) ::
  (nat_lit 140, ⟨Value.type "function", none, .func (PySem.W.fnOf "ahead_of" "Walk.ahead_of" (HD.dA (HD.inC (HD.tp PySem.Challenge.pw_bundlehouse_k22_faults_in_a_part 16) 3)) (HD.dB (HD.inC (HD.tp PySem.Challenge.pw_bundlehouse_k22_faults_in_a_part 16) 3)) (HD.dS (HD.inC (HD.tp PySem.Challenge.pw_bundlehouse_k22_faults_in_a_part 16) 3)) (Value.none) (Value.none) (Value.none) (Value.str ("bundlehouse.run") 313) (none) (Value.ref 139) (Value.none)), #[]⟩) ::
  (nat_lit 141, { cls := Value.type "tuple", data := Data.seq #[] }) ::
  (nat_lit 143, { cls := Value.type "tuple", data := Data.seq #[Value.str ("self") 372, Value.str ("root") 373, Value.str ("numbers") 374, Value.str ("going") 375] }) ::
  (nat_lit 144, { cls := Value.type "tuple", data := Data.seq #[] }) ::
  (nat_lit 146, { cls := Value.type "code", data := Data.fields #[Value.str ("go") 369, Value.str ("Walk.go") 370, Value.str ("/claim/cut.py") 371, Value.int 110 0, Value.int 3 0, Value.int 0 0, Value.int 0 0, Value.int 3 0, Value.ref 141, Value.bool true, Value.int 181 0, Value.ref 142, Value.none, Value.ref 143, Value.ref 144, Value.ref 145, Value.int 376 0, Value.int 110 0, Value.str ("/claim/cut.py") 377] }) ::
  (nat_lit 147, ⟨Value.type "function", none, .func (PySem.W.fnOf "go" "Walk.go" (HD.dA (HD.inC (HD.tp PySem.Challenge.pw_bundlehouse_k22_faults_in_a_part 16) 4)) (HD.dB (HD.inC (HD.tp PySem.Challenge.pw_bundlehouse_k22_faults_in_a_part 16) 4)) (HD.dS (HD.inC (HD.tp PySem.Challenge.pw_bundlehouse_k22_faults_in_a_part 16) 4)) (Value.none) (Value.none) (Value.none) (Value.str ("bundlehouse.run") 313) (none) (Value.ref 146) (Value.none)), #[]⟩) ::
  (nat_lit 148, { cls := Value.type "tuple", data := Data.seq #[] }) ::
  (nat_lit 149, { cls := Value.type "dict", data := Data.dict #[HD.en P "__module__" 331 (Value.str ("bundlehouse.run") 313), HD.en P "__firstlineno__" 335 (Value.int 96 334), HD.en P "rows_of" 343 (Value.ref 119), HD.en P "key_of" 352 (Value.ref 126), HD.en P "loads_of" 360 (Value.ref 133), HD.en P "ahead_of" 368 (Value.ref 140), HD.en P "go" 378 (Value.ref 147), HD.en P "__static_attributes__" 379 (Value.ref 148), HD.en P "__dict__" 381 (Value.ref 151), HD.en P "__weakref__" 383 (Value.ref 152), HD.en P "__doc__" 384 (Value.none)] 4 }) ::
  (nat_lit 150, { cls := Value.type "type", data := Data.cls { name := "Walk", bases := [Value.type "object"], mro := [Value.ref 150, Value.type "object"], ns := 149, qualname := "Walk", subclasses := [Value.ref 183] }, slots := #[none, none, some (Value.str ("Walk") 324), some (Value.str ("Walk") 332), some (Value.builtin "object.__new__"), some (Value.bool true)] }) ::
  (nat_lit 151, { cls := Value.type "getset_descriptor", data := Data.fields #[Value.str ("__dict__") 380, Value.ref 150, Value.builtin "function.__dict__", Value.builtin "function.__dict__#set"] }) ::
  (nat_lit 152, { cls := Value.type "getset_descriptor", data := Data.fields #[Value.str ("__weakref__") 382, Value.ref 150, Value.builtin "ExceptionGroup.__weakref__", Value.none] }) ::
  (nat_lit 155, { cls := Value.type "tuple", data := Data.seq #[Value.ref 150] }) ::
  (nat_lit 162, { cls := Value.type "tuple", data := Data.seq #[] }) ::
  (nat_lit 164, { cls := Value.type "tuple", data := Data.seq #[Value.str ("self") 402, Value.str ("parts") 403] }) ::
  (nat_lit 165, { cls := Value.type "tuple", data := Data.seq #[] }) ::
  (nat_lit 167, { cls := Value.type "code", data := Data.fields #[Value.str ("__init__") 399, Value.str ("PartsWalk.__init__") 400, Value.str ("/claim/cut.py") 401, Value.int 119 0, Value.int 2 0, Value.int 0 0, Value.int 0 0, Value.int 3 0, Value.ref 162, Value.bool true, Value.int 181 0, Value.ref 163, Value.none, Value.ref 164, Value.ref 165, Value.ref 166, Value.int 404 0, Value.int 119 0, Value.str ("/claim/cut.py") 405] }) ::
  (nat_lit 168, ⟨Value.type "function", none, .func (PySem.W.fnOf "__init__" "PartsWalk.__init__" (HD.dA (HD.inC (HD.tp PySem.Challenge.pw_bundlehouse_k22_faults_in_a_part 17) 0)) (HD.dB (HD.inC (HD.tp PySem.Challenge.pw_bundlehouse_k22_faults_in_a_part 17) 0)) (HD.dS (HD.inC (HD.tp PySem.Challenge.pw_bundlehouse_k22_faults_in_a_part 17) 0)) (Value.none) (Value.none) (Value.none) (Value.str ("bundlehouse.run") 313) (none) (Value.ref 167) (Value.none)), #[]⟩) ::
  (nat_lit 169, { cls := Value.type "tuple", data := Data.seq #[] }) ::
  (nat_lit 172, { cls := Value.type "code", data := Data.fields #[Value.str ("rows_of") 407, Value.str ("PartsWalk.rows_of") 408, Value.str ("/claim/cut.py") 409, Value.int 123 0, Value.int 2 0, Value.int 0 0, Value.int 0 0, Value.int 3 0, Value.ref 169, Value.bool true, Value.int 181 0, Value.ref 170, Value.none, Value.none, Value.none, Value.ref 171, Value.int 410 0, Value.int 123 0, Value.str ("/claim/cut.py") 411] }) ::
  (nat_lit 173, ⟨Value.type "function", none, .func (PySem.W.fnOf "rows_of" "PartsWalk.rows_of" (HD.dA (HD.inC (HD.tp PySem.Challenge.pw_bundlehouse_k22_faults_in_a_part 17) 1)) (HD.dB (HD.inC (HD.tp PySem.Challenge.pw_bundlehouse_k22_faults_in_a_part 17) 1)) (HD.dS (HD.inC (HD.tp PySem.Challenge.pw_bundlehouse_k22_faults_in_a_part 17) 1)) (Value.none) (Value.none) (Value.none) (Value.str ("bundlehouse.run") 313) (none) (Value.ref 172) (Value.none)), #[]⟩) ::
  (nat_lit 174, { cls := Value.type "tuple", data := Data.seq #[] }) ::
  (nat_lit 176, { cls := Value.type "tuple", data := Data.seq #[Value.str ("self") 416, Value.str ("part") 417, Value.str ("name") 418] }) ::
  (nat_lit 177, { cls := Value.type "tuple", data := Data.seq #[] }) ::
  (nat_lit 179, { cls := Value.type "code", data := Data.fields #[Value.str ("key_of") 413, Value.str ("PartsWalk.key_of") 414, Value.str ("/claim/cut.py") 415, Value.int 126 0, Value.int 3 0, Value.int 0 0, Value.int 0 0, Value.int 3 0, Value.ref 174, Value.bool true, Value.int 181 0, Value.ref 175, Value.none, Value.ref 176, Value.ref 177, Value.ref 178, Value.int 419 0, Value.int 126 0, Value.str ("/claim/cut.py") 420] }) ::
  (nat_lit 180, ⟨Value.type "function", none, .func (PySem.W.fnOf "key_of" "PartsWalk.key_of" (HD.dA (HD.inC (HD.tp PySem.Challenge.pw_bundlehouse_k22_faults_in_a_part 17) 2)) (HD.dB (HD.inC (HD.tp PySem.Challenge.pw_bundlehouse_k22_faults_in_a_part 17) 2)) (HD.dS (HD.inC (HD.tp PySem.Challenge.pw_bundlehouse_k22_faults_in_a_part 17) 2)) (Value.none) (Value.none) (Value.none) (Value.str ("bundlehouse.run") 313) (none) (Value.ref 179) (Value.none)), #[]⟩) ::
  (nat_lit 181, { cls := Value.type "tuple", data := Data.seq #[Value.str ("makers") 422, Value.str ("rows") 423] }) ::
  (nat_lit 182, { cls := Value.type "dict", data := Data.dict #[HD.en P "__module__" 394 (Value.str ("bundlehouse.run") 313), HD.en P "__firstlineno__" 398 (Value.int 117 397), HD.en P "__init__" 406 (Value.ref 168), HD.en P "rows_of" 412 (Value.ref 173), HD.en P "key_of" 421 (Value.ref 180), HD.en P "__static_attributes__" 424 (Value.ref 181), HD.en P "__doc__" 425 (Value.none)] 2 }) ::
  (nat_lit 183, { cls := Value.type "type", data := Data.cls { name := "PartsWalk", bases := [Value.ref 150], mro := [Value.ref 183, Value.ref 150, Value.type "object"], ns := 182, qualname := "PartsWalk" }, slots := #[some (Value.ref 155), none, some (Value.str ("PartsWalk") 387), some (Value.str ("PartsWalk") 395), some (Value.builtin "object.__new__"), some (Value.bool true)] }) ::
  (nat_lit 193, { cls := Value.type "tuple", data := Data.seq #[] }) ::
  (nat_lit 195, { cls := Value.type "tuple", data := Data.seq #[Value.str ("self") 443, Value.str ("walk") 444, Value.str ("numbers") 445] }) ::
  (nat_lit 196, { cls := Value.type "tuple", data := Data.seq #[] }) ::
  (nat_lit 198, { cls := Value.type "code", data := Data.fields #[Value.str ("__init__") 440, Value.str ("Going.__init__") 441, Value.str ("/claim/cut.py") 442, Value.int 130 0, Value.int 3 0, Value.int 0 0, Value.int 0 0, Value.int 3 0, Value.ref 193, Value.bool true, Value.int 181 0, Value.ref 194, Value.none, Value.ref 195, Value.ref 196, Value.ref 197, Value.int 446 0, Value.int 130 0, Value.str ("/claim/cut.py") 447] }) ::
  (nat_lit 199, ⟨Value.type "function", none, .func (PySem.W.fnOf "__init__" "Going.__init__" (HD.dA (HD.inC (HD.tp PySem.Challenge.pw_bundlehouse_k22_faults_in_a_part 18) 0)) (HD.dB (HD.inC (HD.tp PySem.Challenge.pw_bundlehouse_k22_faults_in_a_part 18) 0)) (HD.dS (HD.inC (HD.tp PySem.Challenge.pw_bundlehouse_k22_faults_in_a_part 18) 0)) (Value.none) (Value.none) (Value.none) (Value.str ("bundlehouse.run") 313) (none) (Value.ref 198) (Value.none)), #[]⟩) ::
  (nat_lit 200, { cls := Value.type "tuple", data := Data.seq #[] }) ::
  (nat_lit 202, { cls := Value.type "tuple", data := Data.seq #[Value.str ("self") 452, Value.str ("packs") 453, Value.str ("pack") 454] }) ::
  (nat_lit 203, { cls := Value.type "tuple", data := Data.seq #[] }) ::
  (nat_lit 205, { cls := Value.type "code", data := Data.fields #[Value.str ("load") 449, Value.str ("Going.load") 450, Value.str ("/claim/cut.py") 451, Value.int 141 0, Value.int 2 0, Value.int 0 0, Value.int 0 0, Value.int 3 0, Value.ref 200, Value.bool true, Value.int 181 0, Value.ref 201, Value.none, Value.ref 202, Value.ref 203, Value.ref 204, Value.int 455 0, Value.int 141 0, Value.str ("/claim/cut.py") 456] }) ::
  (nat_lit 206, ⟨Value.type "function", none, .func (PySem.W.fnOf "load" "Going.load" (HD.dA (HD.inC (HD.tp PySem.Challenge.pw_bundlehouse_k22_faults_in_a_part 18) 1)) (HD.dB (HD.inC (HD.tp PySem.Challenge.pw_bundlehouse_k22_faults_in_a_part 18) 1)) (HD.dS (HD.inC (HD.tp PySem.Challenge.pw_bundlehouse_k22_faults_in_a_part 18) 1)) (Value.none) (Value.none) (Value.none) (Value.str ("bundlehouse.run") 313) (none) (Value.ref 205) (Value.none)), #[]⟩) ::
  (nat_lit 207, { cls := Value.type "tuple", data := Data.seq #[] }) ::
  (nat_lit 209, { cls := Value.type "tuple", data := Data.seq #[Value.str ("self") 461, Value.str ("part") 462, Value.str ("place") 463, Value.str ("number") 464, Value.str ("row") 465] }) ::
  (nat_lit 210, { cls := Value.type "tuple", data := Data.seq #[] }) ::
  (nat_lit 212, { cls := Value.type "code", data := Data.fields #[Value.str ("begin") 458, Value.str ("Going.begin") 459, Value.str ("/claim/cut.py") 460, Value.int 147 0, Value.int 2 0, Value.int 0 0, Value.int 0 0, Value.int 3 0, Value.ref 207, Value.bool true, Value.int 181 0, Value.ref 208, Value.none, Value.ref 209, Value.ref 210, Value.ref 211, Value.int 466 0, Value.int 147 0, Value.str ("/claim/cut.py") 467] }) ::
  (nat_lit 213, ⟨Value.type "function", none, .func (PySem.W.fnOf "begin" "Going.begin" (HD.dA (HD.inC (HD.tp PySem.Challenge.pw_bundlehouse_k22_faults_in_a_part 18) 2)) (HD.dB (HD.inC (HD.tp PySem.Challenge.pw_bundlehouse_k22_faults_in_a_part 18) 2)) (HD.dS (HD.inC (HD.tp PySem.Challenge.pw_bundlehouse_k22_faults_in_a_part 18) 2)) (Value.none) (Value.none) (Value.none) (Value.str ("bundlehouse.run") 313) (none) (Value.ref 212) (Value.none)), #[]⟩) ::
  (nat_lit 214, { cls := Value.type "tuple", data := Data.seq #[] }) ::
  (nat_lit 216, { cls := Value.type "tuple", data := Data.seq #[Value.str ("self") 472, Value.str ("step") 473] }) ::
  (nat_lit 217, { cls := Value.type "tuple", data := Data.seq #[] }) ::
  (nat_lit 219, { cls := Value.type "code", data := Data.fields #[Value.str ("go_on") 469, Value.str ("Going.go_on") 470, Value.str ("/claim/cut.py") 471, Value.int 152 0, Value.int 1 0, Value.int 0 0, Value.int 0 0, Value.int 3 0, Value.ref 214, Value.bool true, Value.int 181 0, Value.ref 215, Value.none, Value.ref 216, Value.ref 217, Value.ref 218, Value.int 474 0, Value.int 152 0, Value.str ("/claim/cut.py") 475] }) ::
  (nat_lit 220, ⟨Value.type "function", none, .func (PySem.W.fnOf "go_on" "Going.go_on" (HD.dA (HD.inC (HD.tp PySem.Challenge.pw_bundlehouse_k22_faults_in_a_part 18) 3)) (HD.dB (HD.inC (HD.tp PySem.Challenge.pw_bundlehouse_k22_faults_in_a_part 18) 3)) (HD.dS (HD.inC (HD.tp PySem.Challenge.pw_bundlehouse_k22_faults_in_a_part 18) 3)) (Value.none) (Value.none) (Value.none) (Value.str ("bundlehouse.run") 313) (none) (Value.ref 219) (Value.none)), #[]⟩) ::
  (nat_lit 221, { cls := Value.type "tuple", data := Data.seq #[] }) ::
  (nat_lit 223, { cls := Value.type "tuple", data := Data.seq #[Value.str ("self") 480, Value.str ("part") 481, Value.str ("where") 482, Value.str ("row") 483, Value.str ("word") 484] }) ::
  (nat_lit 224, { cls := Value.type "tuple", data := Data.seq #[] }) ::
  (nat_lit 226, { cls := Value.type "code", data := Data.fields #[Value.str ("do_row") 477, Value.str ("Going.do_row") 478, Value.str ("/claim/cut.py") 479, Value.int 157 0, Value.int 4 0, Value.int 0 0, Value.int 0 0, Value.int 3 0, Value.ref 221, Value.bool true, Value.int 181 0, Value.ref 222, Value.none, Value.ref 223, Value.ref 224, Value.ref 225, Value.int 485 0, Value.int 157 0, Value.str ("/claim/cut.py") 486] }) ::
  (nat_lit 227, ⟨Value.type "function", none, .func (PySem.W.fnOf "do_row" "Going.do_row" (HD.dA (HD.inC (HD.tp PySem.Challenge.pw_bundlehouse_k22_faults_in_a_part 18) 4)) (HD.dB (HD.inC (HD.tp PySem.Challenge.pw_bundlehouse_k22_faults_in_a_part 18) 4)) (HD.dS (HD.inC (HD.tp PySem.Challenge.pw_bundlehouse_k22_faults_in_a_part 18) 4)) (Value.none) (Value.none) (Value.none) (Value.str ("bundlehouse.run") 313) (none) (Value.ref 226) (Value.none)), #[]⟩) ::
  (nat_lit 228, { cls := Value.type "tuple", data := Data.seq #[] }) ::
  (nat_lit 230, { cls := Value.type "tuple", data := Data.seq #[Value.str ("self") 491, Value.str ("part") 492, Value.str ("row") 493, Value.str ("key") 494] }) ::
  (nat_lit 231, { cls := Value.type "tuple", data := Data.seq #[] }) ::
  (nat_lit 233, { cls := Value.type "code", data := Data.fields #[Value.str ("is_off") 488, Value.str ("Going.is_off") 489, Value.str ("/claim/cut.py") 490, Value.int 168 0, Value.int 3 0, Value.int 0 0, Value.int 0 0, Value.int 3 0, Value.ref 228, Value.bool true, Value.int 181 0, Value.ref 229, Value.none, Value.ref 230, Value.ref 231, Value.ref 232, Value.int 495 0, Value.int 168 0, Value.str ("/claim/cut.py") 496] }) ::
  (nat_lit 234, ⟨Value.type "function", none, .func (PySem.W.fnOf "is_off" "Going.is_off" (HD.dA (HD.inC (HD.tp PySem.Challenge.pw_bundlehouse_k22_faults_in_a_part 18) 5)) (HD.dB (HD.inC (HD.tp PySem.Challenge.pw_bundlehouse_k22_faults_in_a_part 18) 5)) (HD.dS (HD.inC (HD.tp PySem.Challenge.pw_bundlehouse_k22_faults_in_a_part 18) 5)) (Value.none) (Value.none) (Value.none) (Value.str ("bundlehouse.run") 313) (none) (Value.ref 233) (Value.none)), #[]⟩) ::
  (nat_lit 235, { cls := Value.type "tuple", data := Data.seq #[] }) ::
  (nat_lit 237, { cls := Value.type "tuple", data := Data.seq #[Value.str ("self") 501, Value.str ("part") 502, Value.str ("row") 503, Value.str ("word") 504, Value.str ("name") 505] }) ::
  (nat_lit 238, { cls := Value.type "tuple", data := Data.seq #[] }) ::
  (nat_lit 240, { cls := Value.type "code", data := Data.fields #[Value.str ("early_word") 498, Value.str ("Going.early_word") 499, Value.str ("/claim/cut.py") 500, Value.int 174 0, Value.int 3 0, Value.int 0 0, Value.int 0 0, Value.int 3 0, Value.ref 235, Value.bool true, Value.int 181 0, Value.ref 236, Value.none, Value.ref 237, Value.ref 238, Value.ref 239, Value.int 506 0, Value.int 174 0, Value.str ("/claim/cut.py") 507] }) ::
  (nat_lit 241, ⟨Value.type "function", none, .func (PySem.W.fnOf "early_word" "Going.early_word" (HD.dA (HD.inC (HD.tp PySem.Challenge.pw_bundlehouse_k22_faults_in_a_part 18) 6)) (HD.dB (HD.inC (HD.tp PySem.Challenge.pw_bundlehouse_k22_faults_in_a_part 18) 6)) (HD.dS (HD.inC (HD.tp PySem.Challenge.pw_bundlehouse_k22_faults_in_a_part 18) 6)) (Value.none) (Value.none) (Value.none) (Value.str ("bundlehouse.run") 313) (none) (Value.ref 240) (Value.none)), #[]⟩) ::
  (nat_lit 242, { cls := Value.type "tuple", data := Data.seq #[] }) ::
  (nat_lit 244, { cls := Value.type "tuple", data := Data.seq #[Value.str ("self") 512, Value.str ("kind") 513, Value.str ("part") 514] }) ::
  (nat_lit 245, { cls := Value.type "tuple", data := Data.seq #[] }) ::
  (nat_lit 247, { cls := Value.type "code", data := Data.fields #[Value.str ("enter") 509, Value.str ("Going.enter") 510, Value.str ("/claim/cut.py") 511, Value.int 180 0, Value.int 3 0, Value.int 0 0, Value.int 0 0, Value.int 3 0, Value.ref 242, Value.bool true, Value.int 181 0, Value.ref 243, Value.none, Value.ref 244, Value.ref 245, Value.ref 246, Value.int 515 0, Value.int 180 0, Value.str ("/claim/cut.py") 516] }) ::
  (nat_lit 248, ⟨Value.type "function", none, .func (PySem.W.fnOf "enter" "Going.enter" (HD.dA (HD.inC (HD.tp PySem.Challenge.pw_bundlehouse_k22_faults_in_a_part 18) 7)) (HD.dB (HD.inC (HD.tp PySem.Challenge.pw_bundlehouse_k22_faults_in_a_part 18) 7)) (HD.dS (HD.inC (HD.tp PySem.Challenge.pw_bundlehouse_k22_faults_in_a_part 18) 7)) (Value.none) (Value.none) (Value.none) (Value.str ("bundlehouse.run") 313) (none) (Value.ref 247) (Value.none)), #[]⟩) ::
  (nat_lit 249, { cls := Value.type "tuple", data := Data.seq #[] }) ::
  (nat_lit 251, { cls := Value.type "tuple", data := Data.seq #[Value.str ("self") 521, Value.str ("part") 522, Value.str ("where") 523, Value.str ("row") 524, Value.str ("kind") 525, Value.str ("value") 526] }) ::
  (nat_lit 252, { cls := Value.type "tuple", data := Data.seq #[] }) ::
  (nat_lit 254, { cls := Value.type "code", data := Data.fields #[Value.str ("do_work") 518, Value.str ("Going.do_work") 519, Value.str ("/claim/cut.py") 520, Value.int 187 0, Value.int 4 0, Value.int 0 0, Value.int 0 0, Value.int 3 0, Value.ref 249, Value.bool true, Value.int 181 0, Value.ref 250, Value.none, Value.ref 251, Value.ref 252, Value.ref 253, Value.int 527 0, Value.int 187 0, Value.str ("/claim/cut.py") 528] }) ::
  (nat_lit 255, ⟨Value.type "function", none, .func (PySem.W.fnOf "do_work" "Going.do_work" (HD.dA (HD.inC (HD.tp PySem.Challenge.pw_bundlehouse_k22_faults_in_a_part 18) 8)) (HD.dB (HD.inC (HD.tp PySem.Challenge.pw_bundlehouse_k22_faults_in_a_part 18) 8)) (HD.dS (HD.inC (HD.tp PySem.Challenge.pw_bundlehouse_k22_faults_in_a_part 18) 8)) (Value.none) (Value.none) (Value.none) (Value.str ("bundlehouse.run") 313) (none) (Value.ref 254) (Value.none)), #[]⟩) ::
  (nat_lit 256, { cls := Value.type "tuple", data := Data.seq #[] }) ::
  (nat_lit 258, { cls := Value.type "tuple", data := Data.seq #[Value.str ("self") 533, Value.str ("part") 534, Value.str ("name") 535, Value.str ("value") 536] }) ::
  (nat_lit 259, { cls := Value.type "tuple", data := Data.seq #[] }) ::
  (nat_lit 261, { cls := Value.type "code", data := Data.fields #[Value.str ("give") 530, Value.str ("Going.give") 531, Value.str ("/claim/cut.py") 532, Value.int 200 0, Value.int 4 0, Value.int 0 0, Value.int 0 0, Value.int 3 0, Value.ref 256, Value.bool true, Value.int 181 0, Value.ref 257, Value.none, Value.ref 258, Value.ref 259, Value.ref 260, Value.int 537 0, Value.int 200 0, Value.str ("/claim/cut.py") 538] }) ::
  (nat_lit 262, ⟨Value.type "function", none, .func (PySem.W.fnOf "give" "Going.give" (HD.dA (HD.inC (HD.tp PySem.Challenge.pw_bundlehouse_k22_faults_in_a_part 18) 9)) (HD.dB (HD.inC (HD.tp PySem.Challenge.pw_bundlehouse_k22_faults_in_a_part 18) 9)) (HD.dS (HD.inC (HD.tp PySem.Challenge.pw_bundlehouse_k22_faults_in_a_part 18) 9)) (Value.none) (Value.none) (Value.none) (Value.str ("bundlehouse.run") 313) (none) (Value.ref 261) (Value.none)), #[]⟩) ::
  (nat_lit 263, { cls := Value.type "tuple", data := Data.seq #[] }) ::
  (nat_lit 265, { cls := Value.type "tuple", data := Data.seq #[Value.str ("self") 543] }) ::
  (nat_lit 266, { cls := Value.type "tuple", data := Data.seq #[] }) ::
  (nat_lit 268, { cls := Value.type "code", data := Data.fields #[Value.str ("next_told") 540, Value.str ("Going.next_told") 541, Value.str ("/claim/cut.py") 542, Value.int 203 0, Value.int 1 0, Value.int 0 0, Value.int 0 0, Value.int 3 0, Value.ref 263, Value.bool true, Value.int 181 0, Value.ref 264, Value.none, Value.ref 265, Value.ref 266, Value.ref 267, Value.int 544 0, Value.int 203 0, Value.str ("/claim/cut.py") 545] }) ::
  (nat_lit 269, ⟨Value.type "function", none, .func (PySem.W.fnOf "next_told" "Going.next_told" (HD.dA (HD.inC (HD.tp PySem.Challenge.pw_bundlehouse_k22_faults_in_a_part 18) 10)) (HD.dB (HD.inC (HD.tp PySem.Challenge.pw_bundlehouse_k22_faults_in_a_part 18) 10)) (HD.dS (HD.inC (HD.tp PySem.Challenge.pw_bundlehouse_k22_faults_in_a_part 18) 10)) (Value.none) (Value.none) (Value.none) (Value.str ("bundlehouse.run") 313) (none) (Value.ref 268) (Value.none)), #[]⟩) ::
  (nat_lit 270, { cls := Value.type "tuple", data := Data.seq #[] }) ::
  (nat_lit 272, { cls := Value.type "tuple", data := Data.seq #[Value.str ("self") 550, Value.str ("part") 551, Value.str ("terms") 552, Value.str ("total") 553, Value.str ("sign") 554, Value.str ("thing") 555] }) ::
  (nat_lit 273, { cls := Value.type "tuple", data := Data.seq #[] }) ::
  (nat_lit 275, { cls := Value.type "code", data := Data.fields #[Value.str ("value_of") 547, Value.str ("Going.value_of") 548, Value.str ("/claim/cut.py") 549, Value.int 209 0, Value.int 3 0, Value.int 0 0, Value.int 0 0, Value.int 3 0, Value.ref 270, Value.bool true, Value.int 181 0, Value.ref 271, Value.none, Value.ref 272, Value.ref 273, Value.ref 274, Value.int 556 0, Value.int 209 0, Value.str ("/claim/cut.py") 557] }) ::
  (nat_lit 276, ⟨Value.type "function", none, .func (PySem.W.fnOf "value_of" "Going.value_of" (HD.dA (HD.inC (HD.tp PySem.Challenge.pw_bundlehouse_k22_faults_in_a_part 18) 11)) (HD.dB (HD.inC (HD.tp PySem.Challenge.pw_bundlehouse_k22_faults_in_a_part 18) 11)) (HD.dS (HD.inC (HD.tp PySem.Challenge.pw_bundlehouse_k22_faults_in_a_part 18) 11)) (Value.none) (Value.none) (Value.none) (Value.str ("bundlehouse.run") 313) (none) (Value.ref 275) (Value.none)), #[]⟩) ::
  (nat_lit 277, { cls := Value.type "tuple", data := Data.seq #[] }) ::
  (nat_lit 279, { cls := Value.type "tuple", data := Data.seq #[Value.str ("self") 562, Value.str ("part") 563, Value.str ("thing") 564] }) ::
  (nat_lit 280, { cls := Value.type "tuple", data := Data.seq #[] }) ::
  (nat_lit 282, { cls := Value.type "code", data := Data.fields #[Value.str ("thing_value") 559, Value.str ("Going.thing_value") 560, Value.str ("/claim/cut.py") 561, Value.int 215 0, Value.int 3 0, Value.int 0 0, Value.int 0 0, Value.int 3 0, Value.ref 277, Value.bool true, Value.int 181 0, Value.ref 278, Value.none, Value.ref 279, Value.ref 280, Value.ref 281, Value.int 565 0, Value.int 215 0, Value.str ("/claim/cut.py") 566] }) ::
  (nat_lit 283, ⟨Value.type "function", none, .func (PySem.W.fnOf "thing_value" "Going.thing_value" (HD.dA (HD.inC (HD.tp PySem.Challenge.pw_bundlehouse_k22_faults_in_a_part 18) 12)) (HD.dB (HD.inC (HD.tp PySem.Challenge.pw_bundlehouse_k22_faults_in_a_part 18) 12)) (HD.dS (HD.inC (HD.tp PySem.Challenge.pw_bundlehouse_k22_faults_in_a_part 18) 12)) (Value.none) (Value.none) (Value.none) (Value.str ("bundlehouse.run") 313) (none) (Value.ref 282) (Value.none)), #[]⟩) ::
  (nat_lit 284, { cls := Value.type "tuple", data := Data.seq #[Value.str ("begun") 568, Value.str ("fault") 569, Value.str ("given") 570, Value.str ("loaded") 571, Value.str ("numbers") 572, Value.str ("taken") 573, Value.str ("trace") 574, Value.str ("waiting") 575, Value.str ("walk") 576] }) ::
  (nat_lit 285, { cls := Value.type "dict", data := Data.dict #[HD.en P "__module__" 435 (Value.str ("bundlehouse.run") 313), HD.en P "__firstlineno__" 439 (Value.int 128 438), HD.en P "__init__" 448 (Value.ref 199), HD.en P "load" 457 (Value.ref 206), HD.en P "begin" 468 (Value.ref 213), HD.en P "go_on" 476 (Value.ref 220), HD.en P "do_row" 487 (Value.ref 227), HD.en P "is_off" 497 (Value.ref 234), HD.en P "early_word" 508 (Value.ref 241), HD.en P "enter" 517 (Value.ref 248), HD.en P "do_work" 529 (Value.ref 255), HD.en P "give" 539 (Value.ref 262), HD.en P "next_told" 546 (Value.ref 269), HD.en P "value_of" 558 (Value.ref 276), HD.en P "thing_value" 567 (Value.ref 283), HD.en P "__static_attributes__" 577 (Value.ref 284), HD.en P "__dict__" 579 (Value.ref 287), HD.en P "__weakref__" 581 (Value.ref 288), HD.en P "__doc__" 582 (Value.none)] 4 }) ::
  (nat_lit 286, { cls := Value.type "type", data := Data.cls { name := "Going", bases := [Value.type "object"], mro := [Value.ref 286, Value.type "object"], ns := 285, qualname := "Going" }, slots := #[none, none, some (Value.str ("Going") 428), some (Value.str ("Going") 436), some (Value.builtin "object.__new__"), some (Value.bool true)] }) ::
  (nat_lit 287, { cls := Value.type "getset_descriptor", data := Data.fields #[Value.str ("__dict__") 578, Value.ref 286, Value.builtin "function.__dict__", Value.builtin "function.__dict__#set"] }) ::
  (nat_lit 288, { cls := Value.type "getset_descriptor", data := Data.fields #[Value.str ("__weakref__") 580, Value.ref 286, Value.builtin "ExceptionGroup.__weakref__", Value.none] }) ::
  (nat_lit 291, { cls := Value.type "tuple", data := Data.seq #[] }) ::
  (nat_lit 293, { cls := Value.type "tuple", data := Data.seq #[Value.str ("_law_script") 590, Value.str ("_law_k") 591] }) ::
  (nat_lit 294, { cls := Value.type "tuple", data := Data.seq #[] }) ::
  (nat_lit 296, { cls := Value.type "code", data := Data.fields #[Value.str ("_law_cell_at") 587, Value.str ("_law_cell_at") 588, Value.str ("/claim/cut.py") 589, Value.int 220 0, Value.int 2 0, Value.int 0 0, Value.int 0 0, Value.int 3 0, Value.ref 291, Value.bool true, Value.int 181 0, Value.ref 292, Value.none, Value.ref 293, Value.ref 294, Value.ref 295, Value.int 592 0, Value.int 220 0, Value.str ("/claim/cut.py") 593] }) ::
  (nat_lit 297, ⟨Value.type "function", none, .func (PySem.W.fnOf "_law_cell_at" "_law_cell_at" (HD.dA (HD.tp PySem.Challenge.pw_bundlehouse_k22_faults_in_a_part 20)) (HD.dB (HD.tp PySem.Challenge.pw_bundlehouse_k22_faults_in_a_part 20)) (HD.dS (HD.tp PySem.Challenge.pw_bundlehouse_k22_faults_in_a_part 20)) (Value.none) (Value.none) (Value.none) (Value.str ("law_bundlehouse_k22_faults_in_a_part") 585) (none) (Value.ref 296) (Value.none)), #[]⟩) ::
  (nat_lit 298, { cls := Value.type "tuple", data := Data.seq #[] }) ::
  (nat_lit 300, { cls := Value.type "tuple", data := Data.seq #[Value.str ("_law_found") 598] }) ::
  (nat_lit 301, { cls := Value.type "tuple", data := Data.seq #[] }) ::
  (nat_lit 303, { cls := Value.type "code", data := Data.fields #[Value.str ("_law_whole") 595, Value.str ("_law_whole") 596, Value.str ("/claim/cut.py") 597, Value.int 224 0, Value.int 1 0, Value.int 0 0, Value.int 0 0, Value.int 3 0, Value.ref 298, Value.bool true, Value.int 181 0, Value.ref 299, Value.none, Value.ref 300, Value.ref 301, Value.ref 302, Value.int 599 0, Value.int 224 0, Value.str ("/claim/cut.py") 600] }) ::
  (nat_lit 304, ⟨Value.type "function", none, .func (PySem.W.fnOf "_law_whole" "_law_whole" (HD.dA (HD.tp PySem.Challenge.pw_bundlehouse_k22_faults_in_a_part 21)) (HD.dB (HD.tp PySem.Challenge.pw_bundlehouse_k22_faults_in_a_part 21)) (HD.dS (HD.tp PySem.Challenge.pw_bundlehouse_k22_faults_in_a_part 21)) (Value.none) (Value.none) (Value.none) (Value.str ("law_bundlehouse_k22_faults_in_a_part") 585) (none) (Value.ref 303) (Value.none)), #[]⟩) ::
  (nat_lit 305, { cls := Value.type "tuple", data := Data.seq #[] }) ::
  (nat_lit 307, { cls := Value.type "tuple", data := Data.seq #[Value.str ("_law_cell") 605, Value.str ("_law_k") 606, Value.str ("_law_base") 607, Value.str ("_law_at") 608] }) ::
  (nat_lit 308, { cls := Value.type "tuple", data := Data.seq #[] }) ::
  (nat_lit 310, { cls := Value.type "code", data := Data.fields #[Value.str ("_law_name") 602, Value.str ("_law_name") 603, Value.str ("/claim/cut.py") 604, Value.int 226 0, Value.int 2 0, Value.int 0 0, Value.int 0 0, Value.int 3 0, Value.ref 305, Value.bool true, Value.int 181 0, Value.ref 306, Value.none, Value.ref 307, Value.ref 308, Value.ref 309, Value.int 609 0, Value.int 226 0, Value.str ("/claim/cut.py") 610] }) ::
  (nat_lit 311, ⟨Value.type "function", none, .func (PySem.W.fnOf "_law_name" "_law_name" (HD.dA (HD.tp PySem.Challenge.pw_bundlehouse_k22_faults_in_a_part 22)) (HD.dB (HD.tp PySem.Challenge.pw_bundlehouse_k22_faults_in_a_part 22)) (HD.dS (HD.tp PySem.Challenge.pw_bundlehouse_k22_faults_in_a_part 22)) (Value.none) (Value.none) (Value.none) (Value.str ("law_bundlehouse_k22_faults_in_a_part") 585) (none) (Value.ref 310) (Value.none)), #[]⟩) ::
  (nat_lit 312, { cls := Value.type "tuple", data := Data.seq #[] }) ::
  (nat_lit 314, { cls := Value.type "tuple", data := Data.seq #[Value.str ("_law_cell") 615] }) ::
  (nat_lit 315, { cls := Value.type "tuple", data := Data.seq #[] }) ::
  (nat_lit 317, { cls := Value.type "code", data := Data.fields #[Value.str ("_law_number") 612, Value.str ("_law_number") 613, Value.str ("/claim/cut.py") 614, Value.int 230 0, Value.int 1 0, Value.int 0 0, Value.int 0 0, Value.int 3 0, Value.ref 312, Value.bool true, Value.int 181 0, Value.ref 313, Value.none, Value.ref 314, Value.ref 315, Value.ref 316, Value.int 616 0, Value.int 230 0, Value.str ("/claim/cut.py") 617] }) ::
  (nat_lit 318, ⟨Value.type "function", none, .func (PySem.W.fnOf "_law_number" "_law_number" (HD.dA (HD.tp PySem.Challenge.pw_bundlehouse_k22_faults_in_a_part 23)) (HD.dB (HD.tp PySem.Challenge.pw_bundlehouse_k22_faults_in_a_part 23)) (HD.dS (HD.tp PySem.Challenge.pw_bundlehouse_k22_faults_in_a_part 23)) (Value.none) (Value.none) (Value.none) (Value.str ("law_bundlehouse_k22_faults_in_a_part") 585) (none) (Value.ref 317) (Value.none)), #[]⟩) ::
  (nat_lit 319, { cls := Value.type "tuple", data := Data.seq #[] }) ::
  (nat_lit 321, { cls := Value.type "tuple", data := Data.seq #[Value.str ("_law_found") 622, Value.str ("_law_deed") 623] }) ::
  (nat_lit 322, { cls := Value.type "tuple", data := Data.seq #[] }) ::
  (nat_lit 324, { cls := Value.type "code", data := Data.fields #[Value.str ("_law_kinds") 619, Value.str ("_law_kinds") 620, Value.str ("/claim/cut.py") 621, Value.int 234 0, Value.int 1 0, Value.int 0 0, Value.int 0 0, Value.int 3 0, Value.ref 319, Value.bool true, Value.int 181 0, Value.ref 320, Value.none, Value.ref 321, Value.ref 322, Value.ref 323, Value.int 624 0, Value.int 234 0, Value.str ("/claim/cut.py") 625] }) ::
  (nat_lit 325, ⟨Value.type "function", none, .func (PySem.W.fnOf "_law_kinds" "_law_kinds" (HD.dA (HD.tp PySem.Challenge.pw_bundlehouse_k22_faults_in_a_part 24)) (HD.dB (HD.tp PySem.Challenge.pw_bundlehouse_k22_faults_in_a_part 24)) (HD.dS (HD.tp PySem.Challenge.pw_bundlehouse_k22_faults_in_a_part 24)) (Value.none) (Value.none) (Value.none) (Value.str ("law_bundlehouse_k22_faults_in_a_part") 585) (none) (Value.ref 324) (Value.none)), #[]⟩) ::
  (nat_lit 326, { cls := Value.type "tuple", data := Data.seq #[] }) ::
  (nat_lit 328, { cls := Value.type "tuple", data := Data.seq #[Value.str ("_law_cells") 630, Value.str ("_law_form") 631, Value.str ("_law_many") 632, Value.str ("_law_terms_here") 633, Value.str ("_law_cell") 634, Value.str ("_law_sign") 635] }) ::
  (nat_lit 329, { cls := Value.type "tuple", data := Data.seq #[] }) ::
  (nat_lit 331, { cls := Value.type "code", data := Data.fields #[Value.str ("_law_terms") 627, Value.str ("_law_terms") 628, Value.str ("/claim/cut.py") 629, Value.int 243 0, Value.int 3 0, Value.int 0 0, Value.int 0 0, Value.int 3 0, Value.ref 326, Value.bool true, Value.int 181 0, Value.ref 327, Value.none, Value.ref 328, Value.ref 329, Value.ref 330, Value.int 636 0, Value.int 243 0, Value.str ("/claim/cut.py") 637] }) ::
  (nat_lit 332, ⟨Value.type "function", none, .func (PySem.W.fnOf "_law_terms" "_law_terms" (HD.dA (HD.tp PySem.Challenge.pw_bundlehouse_k22_faults_in_a_part 25)) (HD.dB (HD.tp PySem.Challenge.pw_bundlehouse_k22_faults_in_a_part 25)) (HD.dS (HD.tp PySem.Challenge.pw_bundlehouse_k22_faults_in_a_part 25)) (Value.none) (Value.none) (Value.none) (Value.str ("law_bundlehouse_k22_faults_in_a_part") 585) (none) (Value.ref 331) (Value.none)), #[]⟩) ::
  (nat_lit 333, { cls := Value.type "tuple", data := Data.seq #[] }) ::
  (nat_lit 335, { cls := Value.type "tuple", data := Data.seq #[Value.str ("_law_script") 642, Value.str ("_law_form") 643, Value.str ("_law_many") 644, Value.str ("_law_kind") 645, Value.str ("_law_terms_here") 646, Value.str ("_law_when") 647] }) ::
  (nat_lit 336, { cls := Value.type "tuple", data := Data.seq #[] }) ::
  (nat_lit 338, { cls := Value.type "code", data := Data.fields #[Value.str ("_law_row") 639, Value.str ("_law_row") 640, Value.str ("/claim/cut.py") 641, Value.int 254 0, Value.int 3 0, Value.int 0 0, Value.int 0 0, Value.int 3 0, Value.ref 333, Value.bool true, Value.int 181 0, Value.ref 334, Value.none, Value.ref 335, Value.ref 336, Value.ref 337, Value.int 648 0, Value.int 254 0, Value.str ("/claim/cut.py") 649] }) ::
  (nat_lit 339, ⟨Value.type "function", none, .func (PySem.W.fnOf "_law_row" "_law_row" (HD.dA (HD.tp PySem.Challenge.pw_bundlehouse_k22_faults_in_a_part 26)) (HD.dB (HD.tp PySem.Challenge.pw_bundlehouse_k22_faults_in_a_part 26)) (HD.dS (HD.tp PySem.Challenge.pw_bundlehouse_k22_faults_in_a_part 26)) (Value.none) (Value.none) (Value.none) (Value.str ("law_bundlehouse_k22_faults_in_a_part") 585) (none) (Value.ref 338) (Value.none)), #[]⟩) ::
  (nat_lit 340, { cls := Value.type "tuple", data := Data.seq #[] }) ::
  (nat_lit 343, { cls := Value.type "code", data := Data.fields #[Value.str ("_law_words") 651, Value.str ("_law_words") 652, Value.str ("/claim/cut.py") 653, Value.int 267 0, Value.int 1 0, Value.int 0 0, Value.int 0 0, Value.int 3 0, Value.ref 340, Value.bool true, Value.int 181 0, Value.ref 341, Value.none, Value.none, Value.none, Value.ref 342, Value.int 654 0, Value.int 267 0, Value.str ("/claim/cut.py") 655] }) ::
  (nat_lit 344, ⟨Value.type "function", none, .func (PySem.W.fnOf "_law_words" "_law_words" (HD.dA (HD.tp PySem.Challenge.pw_bundlehouse_k22_faults_in_a_part 27)) (HD.dB (HD.tp PySem.Challenge.pw_bundlehouse_k22_faults_in_a_part 27)) (HD.dS (HD.tp PySem.Challenge.pw_bundlehouse_k22_faults_in_a_part 27)) (Value.none) (Value.none) (Value.none) (Value.str ("law_bundlehouse_k22_faults_in_a_part") 585) (none) (Value.ref 343) (Value.none)), #[]⟩) ::
  (nat_lit 345, { cls := Value.type "tuple", data := Data.seq #[] }) ::
  (nat_lit 347, { cls := Value.type "tuple", data := Data.seq #[Value.str ("_law_terms_here") 660, Value.str ("_law_values") 661, Value.str ("_law_total_here") 662, Value.str ("_law_sign") 663, Value.str ("_law_thing") 664] }) ::
  (nat_lit 348, { cls := Value.type "tuple", data := Data.seq #[] }) ::
  (nat_lit 350, { cls := Value.type "code", data := Data.fields #[Value.str ("_law_total") 657, Value.str ("_law_total") 658, Value.str ("/claim/cut.py") 659, Value.int 279 0, Value.int 2 0, Value.int 0 0, Value.int 0 0, Value.int 3 0, Value.ref 345, Value.bool true, Value.int 181 0, Value.ref 346, Value.none, Value.ref 347, Value.ref 348, Value.ref 349, Value.int 665 0, Value.int 279 0, Value.str ("/claim/cut.py") 666] }) ::
  (nat_lit 351, ⟨Value.type "function", none, .func (PySem.W.fnOf "_law_total" "_law_total" (HD.dA (HD.tp PySem.Challenge.pw_bundlehouse_k22_faults_in_a_part 28)) (HD.dB (HD.tp PySem.Challenge.pw_bundlehouse_k22_faults_in_a_part 28)) (HD.dS (HD.tp PySem.Challenge.pw_bundlehouse_k22_faults_in_a_part 28)) (Value.none) (Value.none) (Value.none) (Value.str ("law_bundlehouse_k22_faults_in_a_part") 585) (none) (Value.ref 350) (Value.none)), #[]⟩) ::
  (nat_lit 352, { cls := Value.type "tuple", data := Data.seq #[] }) ::
  (nat_lit 354, { cls := Value.type "tuple", data := Data.seq #[Value.str ("_law_row_here") 671, Value.str ("_law_values") 672, Value.str ("_law_place") 673, Value.str ("_law_due") 674, Value.str ("_law_number_here") 675, Value.str ("_law_when") 676, Value.str ("_law_word") 677, Value.str ("_law_name_here") 678] }) ::
  (nat_lit 355, { cls := Value.type "tuple", data := Data.seq #[] }) ::
  (nat_lit 357, { cls := Value.type "code", data := Data.fields #[Value.str ("_law_done") 668, Value.str ("_law_done") 669, Value.str ("/claim/cut.py") 670, Value.int 287 0, Value.int 5 0, Value.int 0 0, Value.int 0 0, Value.int 3 0, Value.ref 352, Value.bool true, Value.int 181 0, Value.ref 353, Value.none, Value.ref 354, Value.ref 355, Value.ref 356, Value.int 679 0, Value.int 287 0, Value.str ("/claim/cut.py") 680] }) ::
  (nat_lit 358, ⟨Value.type "function", none, .func (PySem.W.fnOf "_law_done" "_law_done" (HD.dA (HD.tp PySem.Challenge.pw_bundlehouse_k22_faults_in_a_part 29)) (HD.dB (HD.tp PySem.Challenge.pw_bundlehouse_k22_faults_in_a_part 29)) (HD.dS (HD.tp PySem.Challenge.pw_bundlehouse_k22_faults_in_a_part 29)) (Value.none) (Value.none) (Value.none) (Value.str ("law_bundlehouse_k22_faults_in_a_part") 585) (none) (Value.ref 357) (Value.none)), #[]⟩) ::
  (nat_lit 359, { cls := Value.type "tuple", data := Data.seq #[] }) ::
  (nat_lit 362, { cls := Value.type "code", data := Data.fields #[Value.str ("law") 682, Value.str ("law") 683, Value.str ("/claim/cut.py") 684, Value.int 305 0, Value.int 1 0, Value.int 0 0, Value.int 0 0, Value.int 3 0, Value.ref 359, Value.bool true, Value.int 181 0, Value.ref 360, Value.none, Value.none, Value.none, Value.ref 361, Value.int 685 0, Value.int 305 0, Value.str ("/claim/cut.py") 686] }) ::
  (nat_lit 363, ⟨Value.type "function", none, .func (PySem.W.fnOf "law" "law" (HD.dA (HD.tp PySem.Challenge.pw_bundlehouse_k22_faults_in_a_part 30)) (HD.dB (HD.tp PySem.Challenge.pw_bundlehouse_k22_faults_in_a_part 30)) (HD.dS (HD.tp PySem.Challenge.pw_bundlehouse_k22_faults_in_a_part 30)) (Value.none) (Value.none) (Value.none) (Value.str ("law_bundlehouse_k22_faults_in_a_part") 585) (none) (Value.ref 362) (Value.none)), #[]⟩) :: []
noncomputable def heapA : List Addr := [nat_lit 2, nat_lit 3, nat_lit 15, nat_lit 17, nat_lit 18, nat_lit 20, nat_lit 21, nat_lit 22, nat_lit 24, nat_lit 25, nat_lit 27, nat_lit 28, nat_lit 29, nat_lit 31, nat_lit 32, nat_lit 34, nat_lit 35, nat_lit 36, nat_lit 38, nat_lit 39, nat_lit 41, nat_lit 42, nat_lit 43, nat_lit 45, nat_lit 46, nat_lit 48, nat_lit 49, nat_lit 50, nat_lit 52, nat_lit 53, nat_lit 55, nat_lit 56, nat_lit 57, nat_lit 59, nat_lit 60, nat_lit 62, nat_lit 63, nat_lit 64, nat_lit 66, nat_lit 67, nat_lit 69, nat_lit 70, nat_lit 71, nat_lit 73, nat_lit 74, nat_lit 76, nat_lit 77, nat_lit 78, nat_lit 80, nat_lit 81, nat_lit 83, nat_lit 84, nat_lit 85, nat_lit 87, nat_lit 88, nat_lit 90, nat_lit 91, nat_lit 92, nat_lit 94, nat_lit 95, nat_lit 97, nat_lit 98, nat_lit 99, nat_lit 101, nat_lit 102, nat_lit 104, nat_lit 105, nat_lit 113, nat_lit 115, nat_lit 116, nat_lit 118, nat_lit 120, nat_lit 122, nat_lit 123, nat_lit 125, nat_lit 127, nat_lit 129, nat_lit 130, nat_lit 132, nat_lit 133, nat_lit 134, nat_lit 136, nat_lit 137, nat_lit 139, nat_lit 140, nat_lit 141, nat_lit 143, nat_lit 144, nat_lit 146, nat_lit 147, nat_lit 148, nat_lit 149, nat_lit 150, nat_lit 151, nat_lit 152, nat_lit 155, nat_lit 162, nat_lit 164, nat_lit 165, nat_lit 167, nat_lit 168, nat_lit 169, nat_lit 172, nat_lit 173, nat_lit 174, nat_lit 176, nat_lit 177, nat_lit 179, nat_lit 180, nat_lit 181, nat_lit 182, nat_lit 183, nat_lit 193, nat_lit 195, nat_lit 196, nat_lit 198, nat_lit 199, nat_lit 200, nat_lit 202, nat_lit 203, nat_lit 205, nat_lit 206, nat_lit 207, nat_lit 209, nat_lit 210, nat_lit 212, nat_lit 213, nat_lit 214, nat_lit 216, nat_lit 217, nat_lit 219, nat_lit 220, nat_lit 221, nat_lit 223, nat_lit 224, nat_lit 226, nat_lit 227, nat_lit 228, nat_lit 230, nat_lit 231, nat_lit 233, nat_lit 234, nat_lit 235, nat_lit 237, nat_lit 238, nat_lit 240, nat_lit 241, nat_lit 242, nat_lit 244, nat_lit 245, nat_lit 247, nat_lit 248, nat_lit 249, nat_lit 251, nat_lit 252, nat_lit 254, nat_lit 255, nat_lit 256, nat_lit 258, nat_lit 259, nat_lit 261, nat_lit 262, nat_lit 263, nat_lit 265, nat_lit 266, nat_lit 268, nat_lit 269, nat_lit 270, nat_lit 272, nat_lit 273, nat_lit 275, nat_lit 276, nat_lit 277, nat_lit 279, nat_lit 280, nat_lit 282, nat_lit 283, nat_lit 284, nat_lit 285, nat_lit 286, nat_lit 287, nat_lit 288, nat_lit 291, nat_lit 293, nat_lit 294, nat_lit 296, nat_lit 297, nat_lit 298, nat_lit 300, nat_lit 301, nat_lit 303, nat_lit 304, nat_lit 305, nat_lit 307, nat_lit 308, nat_lit 310, nat_lit 311, nat_lit 312, nat_lit 314, nat_lit 315, nat_lit 317, nat_lit 318, nat_lit 319, nat_lit 321, nat_lit 322, nat_lit 324, nat_lit 325, nat_lit 326, nat_lit 328, nat_lit 329, nat_lit 331, nat_lit 332, nat_lit 333, nat_lit 335, nat_lit 336, nat_lit 338, nat_lit 339, nat_lit 340, nat_lit 343, nat_lit 344, nat_lit 345, nat_lit 347, nat_lit 348, nat_lit 350, nat_lit 351, nat_lit 352, nat_lit 354, nat_lit 355, nat_lit 357, nat_lit 358, nat_lit 359, nat_lit 362, nat_lit 363]
theorem heapE : ∀ P, heapA = (heapK P).map (·.1) := fun _ => by kernel_rfl
theorem said : PySem.Challenge.rw_bundlehouse_k22_faults_in_a_part.wellSaid = true := by kernel_rfl
theorem run1 : ∀ w, ((openEnds treeTable PySem.Challenge.rw_bundlehouse_k22_faults_in_a_part.row.prog w 4304).map fun s => (openSeen (HD.cutTo PySem.Challenge.rw_bundlehouse_k22_faults_in_a_part.prog [1, 2, 3, 4, 5, 6, 7, 9, 10, 11, 12, 13, 15, 16, 17, 18, 20, 21, 22, 23, 24, 25, 26, 27, 28, 29, 30]) [] (importedModules PySem.Challenge.rw_bundlehouse_k22_faults_in_a_part.row.prog.main.body) (fun s => xlAt (HD.cutTo PySem.Challenge.rw_bundlehouse_k22_faults_in_a_part.prog [1, 2, 3, 4, 5, 6, 7, 9, 10, 11, 12, 13, 15, 16, 17, 18, 20, 21, 22, 23, 24, 25, 26, 27, 28, 29, 30]) [] s && recOk (RowW.records PySem.Challenge.rw_bundlehouse_k22_faults_in_a_part.row.toRowW) s) true s).1) = some (openGood (HD.cutTo PySem.Challenge.rw_bundlehouse_k22_faults_in_a_part.prog [1, 2, 3, 4, 5, 6, 7, 9, 10, 11, 12, 13, 15, 16, 17, 18, 20, 21, 22, 23, 24, 25, 26, 27, 28, 29, 30]) []).1 := fun w => by kernel_rfl
theorem run2 : ∀ w, ((openEnds treeTable PySem.Challenge.rw_bundlehouse_k22_faults_in_a_part.row.prog w 4304).map fun s => ((openSeen (HD.cutTo PySem.Challenge.rw_bundlehouse_k22_faults_in_a_part.prog [1, 2, 3, 4, 5, 6, 7, 9, 10, 11, 12, 13, 15, 16, 17, 18, 20, 21, 22, 23, 24, 25, 26, 27, 28, 29, 30]) [] (importedModules PySem.Challenge.rw_bundlehouse_k22_faults_in_a_part.row.prog.main.body) (fun s => xlAt (HD.cutTo PySem.Challenge.rw_bundlehouse_k22_faults_in_a_part.prog [1, 2, 3, 4, 5, 6, 7, 9, 10, 11, 12, 13, 15, 16, 17, 18, 20, 21, 22, 23, 24, 25, 26, 27, 28, 29, 30]) [] s && recOk (RowW.records PySem.Challenge.rw_bundlehouse_k22_faults_in_a_part.row.toRowW) s) true s).2.1, (openSeen (HD.cutTo PySem.Challenge.rw_bundlehouse_k22_faults_in_a_part.prog [1, 2, 3, 4, 5, 6, 7, 9, 10, 11, 12, 13, 15, 16, 17, 18, 20, 21, 22, 23, 24, 25, 26, 27, 28, 29, 30]) [] (importedModules PySem.Challenge.rw_bundlehouse_k22_faults_in_a_part.row.prog.main.body) (fun s => xlAt (HD.cutTo PySem.Challenge.rw_bundlehouse_k22_faults_in_a_part.prog [1, 2, 3, 4, 5, 6, 7, 9, 10, 11, 12, 13, 15, 16, 17, 18, 20, 21, 22, 23, 24, 25, 26, 27, 28, 29, 30]) [] s && recOk (RowW.records PySem.Challenge.rw_bundlehouse_k22_faults_in_a_part.row.toRowW) s) true s).2.2.1)) = some ((openGood (HD.cutTo PySem.Challenge.rw_bundlehouse_k22_faults_in_a_part.prog [1, 2, 3, 4, 5, 6, 7, 9, 10, 11, 12, 13, 15, 16, 17, 18, 20, 21, 22, 23, 24, 25, 26, 27, 28, 29, 30]) []).2.1, (openGood (HD.cutTo PySem.Challenge.rw_bundlehouse_k22_faults_in_a_part.prog [1, 2, 3, 4, 5, 6, 7, 9, 10, 11, 12, 13, 15, 16, 17, 18, 20, 21, 22, 23, 24, 25, 26, 27, 28, 29, 30]) []).2.2.1) := fun w => by kernel_rfl
theorem run3 : ∀ w, ((openEnds treeTable PySem.Challenge.rw_bundlehouse_k22_faults_in_a_part.row.prog w 4304).map fun s => (openSeen (HD.cutTo PySem.Challenge.rw_bundlehouse_k22_faults_in_a_part.prog [1, 2, 3, 4, 5, 6, 7, 9, 10, 11, 12, 13, 15, 16, 17, 18, 20, 21, 22, 23, 24, 25, 26, 27, 28, 29, 30]) [] (importedModules PySem.Challenge.rw_bundlehouse_k22_faults_in_a_part.row.prog.main.body) (fun s => xlAt (HD.cutTo PySem.Challenge.rw_bundlehouse_k22_faults_in_a_part.prog [1, 2, 3, 4, 5, 6, 7, 9, 10, 11, 12, 13, 15, 16, 17, 18, 20, 21, 22, 23, 24, 25, 26, 27, 28, 29, 30]) [] s && recOk (RowW.records PySem.Challenge.rw_bundlehouse_k22_faults_in_a_part.row.toRowW) s) true s).2.2.2) = some (openGood (HD.cutTo PySem.Challenge.rw_bundlehouse_k22_faults_in_a_part.prog [1, 2, 3, 4, 5, 6, 7, 9, 10, 11, 12, 13, 15, 16, 17, 18, 20, 21, 22, 23, 24, 25, 26, 27, 28, 29, 30]) []).2.2.2 := fun w => by kernel_rfl
theorem run4 : ∀ w, ((openEnds treeTable PySem.Challenge.rw_bundlehouse_k22_faults_in_a_part.row.prog w 4304).map (kHook heapK heapA heapE).obs) = some ((kHook heapK heapA heapE).val w) := fun w => by kernel_rfl
theorem top_run : LeftO PySem.Challenge.rw_bundlehouse_k22_faults_in_a_part.row.prog (HD.cutTo PySem.Challenge.rw_bundlehouse_k22_faults_in_a_part.prog [1, 2, 3, 4, 5, 6, 7, 9, 10, 11, 12, 13, 15, 16, 17, 18, 20, 21, 22, 23, 24, 25, 26, 27, 28, 29, 30]) [] (fun s => xlAt (HD.cutTo PySem.Challenge.rw_bundlehouse_k22_faults_in_a_part.prog [1, 2, 3, 4, 5, 6, 7, 9, 10, 11, 12, 13, 15, 16, 17, 18, 20, 21, 22, 23, 24, 25, 26, 27, 28, 29, 30]) [] s && recOk (RowW.records PySem.Challenge.rw_bundlehouse_k22_faults_in_a_part.row.toRowW) s) (kHook heapK heapA heapE).obs (kHook heapK heapA heapE).val 4304 := HD.left_of run1 run2 run3 run4
end K22
set_option Elab.async false
set_option linter.all false
set_option maxRecDepth 100000
namespace L2
open PySem PySem.Spec PyProof.Rows
noncomputable abbrev Key := Sum Int Str
noncomputable def keyIs : Key → Value → Bool
  | .inl k, v => Value.isInt k v
  | .inr x, v => Value.isStrOf x v
noncomputable def keyH (w : World) : Key → Int
  | .inl k => hashInt k
  | .inr x => hashStr w x
theorem keyIs_shape : ∀ {k : Key} {v : Value}, keyIs k v = true → (∃ i t, k = Sum.inl i ∧ v = Value.int i t) ∨ (∃ x t, k = Sum.inr x ∧ v = Value.str x t)
  | .inl i, v, h => by
    obtain ⟨t, e⟩ := Value.isInt_shape (k := i) (v := v) h
    exact .inl ⟨i, t, rfl, e⟩
  | .inr x, v, h => by
    obtain ⟨t, e⟩ := Value.isStrOf_shape (x := x) (v := v) h
    exact .inr ⟨x, t, rfl, e⟩
theorem keyIs_int (i : Int) (t : Tok) : keyIs (.inl i) (.int i t) = true := by simp [keyIs, Value.isInt]
theorem keyIs_str (x : Str) (t : Tok) : keyIs (.inr x) (.str x t) = true := by simp [keyIs, Value.isStrOf]
theorem key_ll (a b : Int) : decide ((Sum.inl a : Key) = Sum.inl b) = (a == b) := by
  by_cases e : a = b
  · subst e; simp
  · have h : ¬ (Sum.inl a : Key) = Sum.inl b := fun q => e (Sum.inl.inj q)
    rw [decide_eq_false h]
    exact (beq_eq_false_iff_ne.mpr e).symm
theorem key_rr (a b : Str) : decide ((Sum.inr a : Key) = Sum.inr b) = decide (a = b) := by
  by_cases e : a = b
  · subst e; simp
  · have h : ¬ (Sum.inr a : Key) = Sum.inr b := fun q => e (Sum.inr.inj q)
    rw [decide_eq_false h, decide_eq_false e]
theorem key_lr (a : Int) (b : Str) : decide ((Sum.inl a : Key) = Sum.inr b) = false := decide_eq_false (fun q => nomatch q)
theorem key_rl (a : Str) (b : Int) : decide ((Sum.inr a : Key) = Sum.inl b) = false := decide_eq_false (fun q => nomatch q)
noncomputable def mixKind (prog : Program) (w : World) : PySem.KeyKind prog w Key where
  is := keyIs
  hash := keyH w
  inj := fun v a b ha hb => by
    rcases keyIs_shape ha with ⟨i, t, rfl, rfl⟩ | ⟨x, t, rfl, rfl⟩
    · rcases keyIs_shape hb with ⟨j, u, rfl, e⟩ | ⟨y, u, rfl, e⟩
      · injection e with e1 _; rw [e1]
      · exact nomatch e
    · rcases keyIs_shape hb with ⟨j, u, rfl, e⟩ | ⟨y, u, rfl, e⟩
      · exact nomatch e
      · injection e with e1 _; rw [e1]
  byValue := fun k v h => by
    rcases keyIs_shape h with ⟨i, t, rfl, rfl⟩ | ⟨x, t, rfl, rfl⟩ <;> rfl
  pyHash := fun hv h => by
    rcases keyIs_shape hv with ⟨i, t, rfl, rfl⟩ | ⟨x, t, rfl, rfl⟩
    · exact wpAny_pyHash_int h
    · exact wpAny_pyHash_str h
  eqBool := fun hu hv h => by
    rcases keyIs_shape hu with ⟨i, t, rfl, rfl⟩ | ⟨x, t, rfl, rfl⟩
    · rcases keyIs_shape hv with ⟨j, u, rfl, rfl⟩ | ⟨y, u, rfl, rfl⟩
      · rw [key_ll] at h; exact wpAny_eqBool_int h
      · rw [key_lr] at h; exact SeqAt.EqAt.int_str i t y u _ _ _ _ h
    · rcases keyIs_shape hv with ⟨j, u, rfl, rfl⟩ | ⟨y, u, rfl, rfl⟩
      · rw [key_rl] at h; exact SeqAt.EqAt.str_int x t j u _ _ _ _ h
      · rw [key_rr] at h; exact wpAny_eqBool_str h
  «strs» := fun k x t v h => by
    rcases keyIs_shape h with ⟨i, u, rfl, e⟩ | ⟨y, u, rfl, e⟩
    · exact nomatch e
    · injection e with e1 _
      subst e1
      cases v <;> rfl
theorem mixKind_int (prog : Program) (w : World) (i : Int) (t : Tok) : (mixKind prog w).is (.inl i) (.int i t) = true := keyIs_int i t
theorem mixKind_str (prog : Program) (w : World) (x : Str) (t : Tok) : (mixKind prog w).is (.inr x) (.str x t) = true := keyIs_str x t
end L2
namespace L2
open PySem PySem.Spec PyProof.Rows
inductive V where
  | non | bl (b : Bool) | int (i : Int) | str (x : Str) | byt (b : Array UInt8) | flt (b : UInt64) | ref (a : Addr) | ty (n : String)
  deriving DecidableEq
noncomputable def RelV : V → Value → Prop
  | .non, u => u = Value.none
  | .bl b, u => u = Value.bool b
  | .int i, u => ∃ t, u = Value.int i t
  | .str x, u => ∃ t, u = Value.str x t
  | .byt b, u => ∃ t, u = Value.bytes b t
  | .flt b, u => ∃ t, u = Value.float b t
  | .ref a, u => u = Value.ref a
  | .ty n, u => u = Value.type n
noncomputable abbrev Vals : List V → List Value → Prop := Paired RelV
theorem Vals.length {xs : List V} {us : List Value} (r : Vals xs us) : xs.length = us.length := Paired.length r
theorem Vals.get : ∀ {xs : List V} {us : List Value} {i : Nat} {x : V}, Vals xs us → xs[i]? = some x → ∃ u, us[i]? = some u ∧ RelV x u
  | _, _, _, _, .nil, e => by simp at e
  | _, _, 0, _, .cons r _, e => by simp at e; subst e; exact ⟨_, rfl, r⟩
  | _, _, i + 1, x, .cons _ t, e => by
    obtain ⟨u, h1, h2⟩ := Vals.get (i := i) (x := x) t (by simpa using e)
    exact ⟨u, by simpa using h1, h2⟩
theorem Vals.append : ∀ {xs ys : List V} {us ws : List Value}, Vals xs us → Vals ys ws → Vals (xs ++ ys) (us ++ ws)
  | _, _, _, _, .nil, s => s
  | _, _, _, _, .cons r t, s => .cons r (Vals.append t s)
theorem Vals.take : ∀ {xs : List V} {us : List Value} (n : Nat), Vals xs us → Vals (xs.take n) (us.take n)
  | _, _, 0, _ => .nil
  | _, _, _ + 1, .nil => .nil
  | _, _, n + 1, .cons r t => .cons r (Vals.take n t)
theorem Vals.drop : ∀ {xs : List V} {us : List Value} (n : Nat), Vals xs us → Vals (xs.drop n) (us.drop n)
  | _, _, 0, r => r
  | _, _, _ + 1, .nil => .nil
  | _, _, n + 1, .cons _ t => Vals.drop n t
noncomputable def RelO : Option V → Option Value → Prop
  | some v, some u => RelV v u
  | none, none => True
  | _, _ => False
noncomputable def KV {κ : Type} : List (κ × V) → List (κ × Value) → Prop := Paired fun (p : κ × V) (q : κ × Value) => p.1 = q.1 ∧ RelV p.2 q.2
noncomputable def kV : Key → V
  | .inl i => .int i
  | .inr x => .str x
inductive HO where
  | lst (xs : List V)
  | tup (xs : List V)
  | dK (kvs : List (Key × V)) | dT (kvs : List (List Key × V))
  | set (S : Int → Bool) (n : Nat)
  | ins (C dx : Addr) (fs : List (Str × V))
  | own (x : Addr)
  | xd (fs : List (Str × V))
  | met (f x : Addr)
  | rng (lo hi : Int)
  | frz (o : Obj) (u : HO)
  | tbl (ps : Array Value)
  | ext (φ : Heap → Prop)
noncomputable abbrev Hp := Addr → Option HO
noncomputable def upd (H : Hp) (a : Addr) (o : HO) : Hp := fun b => if b = a then some o else H b
theorem upd_same {H : Hp} {a : Addr} {o : HO} : upd H a o a = some o := by unfold upd; rw [if_pos rfl]
theorem upd_ne {H : Hp} {a b : Addr} {o : HO} (h : b ≠ a) : upd H a o b = H b := by unfold upd; rw [if_neg h]
theorem upd_upd {H : Hp} {a : Addr} {o u : HO} : upd (upd H a o) a u = upd H a u := by
  funext b; unfold upd; split <;> rfl
theorem ne_of {H : Hp} {a b : Addr} {o u : HO} (h : H a = some o) (h' : H b = some u) (d : o ≠ u) : a ≠ b := by
  intro e; subst e; rw [h] at h'; exact d (Option.some.inj h')
theorem ne_of_none {H : Hp} {a b : Addr} {o : HO} (h : H a = some o) (h' : H b = none) : a ≠ b := by
  intro e; subst e; rw [h] at h'; cases h'
section
variable (P : Program) (w : World)
noncomputable def ObjOk (H : Hp) (h : Heap) (a : Addr) : HO → Prop
  | .lst xs => xs.length ≤ sizeLine ∧ ∃ (its : List Value) (n : Nat), Vals xs its ∧ h.get? a = some { cls := .type "list", data := .seq its.toArray n }
  | .tup xs => xs.length ≤ sizeLine ∧ ∃ its : List Value, Vals xs its ∧ IsTup h a its.toArray
  | .dK kvs => kvs.length ≤ sizeLine ∧ (a == sysModules) = false ∧ ∃ vs, KV kvs vs ∧ h.DictOf (mixKind P w) a vs
  | .dT kvs => kvs.length ≤ sizeLine ∧ (a == sysModules) = false ∧ ∃ xs : List (List Key × Addr × Value),
      Paired (fun (p : List Key × V) (q : List Key × Addr × Value) => p.1 = q.1 ∧ H q.2.1 = some (.tup (p.1.map kV)) ∧ RelV p.2 q.2.2) kvs xs ∧
      ∃ o es ep, h.get? a = some o ∧ o.ExactDict ∧ o.data = .dict es ep ∧ es.toList = xs.map (entryOfKey (tupleKind (mixKind P w))) ∧ (xs.map (·.1)).Nodup
  | .set S n => h.SetOf (intKind P w) a S n
  | .ins C dx fs => H dx = some (.own a) ∧ fs.length ≤ 1000 ∧ dx ≠ a ∧ h.get? a = some (PySem.W.instObj C dx) ∧
      ∃ mA, h.Ns1 dx mA ∧ (∀ f, RelO (fs.lookup f) (mA f)) ∧ PySem.Within mA (fs.map (·.1))
  | .own _ => ∃ o, h.get? a = some o
  | .xd fs => ∃ mA, h.Ns1 a mA ∧ ∀ f, RelO (fs.lookup f) (mA f)
  | .rng lo hi => ∃ t u v, h.get? a = some { cls := .type "range", data := .fields #[.int lo t, .int hi u, .int 1 v] }
  | .frz o u => h.get? a = some o ∧ ObjOk H h a u
  | .tbl ps => h.get? a = some { cls := .none, data := .fields ps }
  | .met f x => h.get? a = some (PySem.W.methodObj (.ref f) (.ref x))
  | .ext φ => φ h ∧ (∃ o, h.get? a = some o) ∧ ∀ h1 h2 : Heap, φ h1 → (∀ o, h1.get? a = some o → h2.get? a = some o) → φ h2
noncomputable def HOk (H : Hp) (h : Heap) : Prop := ∀ a o, H a = some o → ObjOk P w H h a o
end
section
variable {P : Program} {w : World} {H H' : Hp} {h h' : Heap} {a : Addr} {o : HO}
theorem ObjOk.lt (x : ObjOk P w H h a o) : a < h.objs.size := by
  cases o with
  | lst xs => obtain ⟨_, _, _, _, e⟩ := x; exact Heap.lt_size e
  | tup xs => obtain ⟨_, _, _, p⟩ := x; exact p.lt
  | dK kvs => obtain ⟨_, _, _, _, o, _, _, e, _⟩ := x; exact Heap.lt_size e
  | dT kvs => obtain ⟨_, _, _, _, o, _, _, e, _⟩ := x; exact Heap.lt_size e
  | set S n => obtain ⟨o, _, _, _, e, _⟩ := x; exact Heap.lt_size e
  | ins C dx fs => obtain ⟨_, _, _, e, _⟩ := x; exact Heap.lt_size e
  | own y => obtain ⟨_, e⟩ := x; exact Heap.lt_size e
  | xd fs => obtain ⟨_, ⟨_, _, _, e, _⟩, _⟩ := x; exact Heap.lt_size e
  | rng lo hi => obtain ⟨_, _, _, e⟩ := x; exact Heap.lt_size e
  | frz ob u => obtain ⟨e, _⟩ := x; exact Heap.lt_size e
  | tbl ps => exact Heap.lt_size (show h.get? a = some _ from x)
  | met f y => exact Heap.lt_size (show h.get? a = some _ from x)
  | ext φ => obtain ⟨_, ⟨_, e⟩, _⟩ := x; exact Heap.lt_size e
theorem Paired.mapP {α β : Type} {F G : α → β → Prop} : ∀ {l₁ : List α} {l₂ : List β}, Paired F l₁ l₂ → (∀ a b, F a b → G a b) → Paired G l₁ l₂
  | _, _, .nil, _ => .nil
  | _, _, .cons r t, f => .cons (f _ _ r) (Paired.mapP t f)
theorem ObjOk.stay (x : ObjOk P w H h a o) (k : ∀ b u, (b = a ∨ H b = some (.own a)) → h.get? b = some u → h'.get? b = some u)
    (ho : ∀ b, H b = some (.own a) → H' b = some (.own a)) (ht : ∀ b xs, H b = some (.tup xs) → H' b = some (.tup xs)) : ObjOk P w H' h' a o := by
  induction o with
  | lst xs => obtain ⟨z, its, n, r, e⟩ := x; exact ⟨z, its, n, r, k _ _ (.inl rfl) e⟩
  | tup xs => obtain ⟨z, its, r, ob, e, c⟩ := x; exact ⟨z, its, r, ob, k _ _ (.inl rfl) e, c⟩
  | dK kvs => obtain ⟨z, y, vs, r, ob, es, ep, e, c⟩ := x; exact ⟨z, y, vs, r, ob, es, ep, k _ _ (.inl rfl) e, c⟩
  | dT kvs =>
    obtain ⟨z, y, xs, r, ob, es, ep, e, c⟩ := x
    exact ⟨z, y, xs, Paired.mapP r fun p q z => ⟨z.1, ht _ _ z.2.1, z.2.2⟩, ob, es, ep, k _ _ (.inl rfl) e, c⟩
  | set S n => obtain ⟨ob, es, ep, t, e, c⟩ := x; exact ⟨ob, es, ep, t, k _ _ (.inl rfl) e, c⟩
  | ins C dx fs =>
    obtain ⟨d, z, ne, e, mA, ⟨od, es, ep, e2, c⟩, r⟩ := x
    exact ⟨ho _ d, z, ne, k _ _ (.inl rfl) e, mA, ⟨od, es, ep, k _ _ (.inr d) e2, c⟩, r⟩
  | own y => obtain ⟨ob, e⟩ := x; exact ⟨ob, k _ _ (.inl rfl) e⟩
  | xd fs => obtain ⟨mA, ⟨od, es, ep, e, c⟩, r⟩ := x; exact ⟨mA, ⟨od, es, ep, k _ _ (.inl rfl) e, c⟩, r⟩
  | rng lo hi => obtain ⟨t, u, v, e⟩ := x; exact ⟨t, u, v, k _ _ (.inl rfl) e⟩
  | frz ob u ih => obtain ⟨e, q⟩ := x; exact ⟨k _ _ (.inl rfl) e, ih q⟩
  | tbl ps =>
    have e : h.get? a = some { cls := .none, data := .fields ps } := x
    show h'.get? a = some { cls := .none, data := .fields ps }
    exact k a _ (.inl rfl) e
  | met f y =>
    have e : h.get? a = some (PySem.W.methodObj (.ref f) (.ref y)) := x
    show h'.get? a = some (PySem.W.methodObj (.ref f) (.ref y))
    exact k a _ (.inl rfl) e
  | ext φ => obtain ⟨p, ⟨o, e⟩, st⟩ := x; exact ⟨st _ _ p fun o q => k _ _ (.inl rfl) q, ⟨o, k _ _ (.inl rfl) e⟩, st⟩
theorem HOk.lt (x : HOk P w H h) (e : H a = some o) : a < h.objs.size := (x a o e).lt
theorem HOk.fresh (x : HOk P w H h) (e : h.objs.size ≤ a) : H a = none := by
  cases q : H a with
  | none => rfl
  | some u => exact absurd (Nat.lt_of_lt_of_le (x.lt q) e) (Nat.lt_irrefl _)
theorem HOk.kept (x : HOk P w H h) (k : ∀ b u, h.get? b = some u → h'.get? b = some u) : HOk P w H h' := fun a o e =>
  (x a o e).stay (fun b u _ q => k b u q) (fun _ q => q) fun _ _ q => q
theorem HOk.laid (x : HOk P w H h) (k : ∀ b u, h.get? b = some u → h'.get? b = some u) (hp : h.objs.size ≤ a) (new : ObjOk P w (upd H a o) h' a o) : HOk P w (upd H a o) h' := fun b u e => by
  have hn := x.fresh hp
  by_cases hb : b = a
  · subst hb; rw [upd_same] at e; cases e; exact new
  · rw [upd_ne hb] at e
    exact (x b u e).stay (fun c v _ q => k c v q) (fun c q => by rw [upd_ne (ne_of_none q hn)]; exact q) fun c xs q => by rw [upd_ne (ne_of_none q hn)]; exact q
end
noncomputable def Rd (H : Hp) (a : Addr) (u : HO) : Prop := H a = some u ∨ ∃ o, H a = some (.frz o u)
theorem Rd.ok {P : Program} {w : World} {H : Hp} {h : Heap} {a : Addr} {u : HO} (r : Rd H a u) (x : HOk P w H h) : ObjOk P w H h a u := by
  rcases r with r | ⟨o, r⟩
  · exact x a u r
  · obtain ⟨_, q⟩ := x a _ r
    exact q
noncomputable def Mut : Option HO → Prop
  | some (.lst _) => True
  | some (.dK _) => True
  | some (.dT _) => True
  | some (.set _ _) => True
  | some (.ins _ _ _) => True
  | some (.ext _) => True
  | _ => False
section
variable {P : Program} {w : World} {H : Hp} {h h' : Heap} {x e : Addr} {o' : HO}
theorem HOk.write (ok : HOk P w H h) (mu : Mut (H x)) (he : e = x ∨ H e = some (.own x)) (k : ∀ b u, b ≠ e → h.get? b = some u → h'.get? b = some u) (heo : ∃ u, h'.get? e = some u)
    (new : ObjOk P w (upd H x o') h' x o') : HOk P w (upd H x o') h' := fun b u q => by
  have nown : ∀ c y, H c = some (.own y) → c ≠ x := fun c y r z => by subst z; rw [r] at mu; exact mu
  have ntup : ∀ c xs, H c = some (.tup xs) → c ≠ x := fun c xs r z => by subst z; rw [r] at mu; exact mu
  by_cases hb : b = x
  · subst hb; rw [upd_same] at q; cases q; exact new
  · rw [upd_ne hb] at q
    by_cases hbe : b = e
    · have q' : H b = some (.own x) := by
        rcases he with z | z
        · exact absurd (hbe.trans z) hb
        · rw [hbe]; exact z
      rw [q] at q'; cases q'
      obtain ⟨v, hv⟩ := heo
      exact ⟨v, by rw [hbe]; exact hv⟩
    · refine (ok b u q).stay (fun c v hc r => k c v ?_ r) (fun c r => by rw [upd_ne (nown c b r)]; exact r) fun c xs r => by rw [upd_ne (ntup c xs r)]; exact r
      rcases hc with rfl | hc
      · exact hbe
      · rintro rfl
        rcases he with z | z
        · exact nown c b hc z
        · rw [hc] at z; cases z; exact hb rfl
end
structure Un (fs ex : List Addr) (H H' : Hp) (h h' : Heap) : Prop where
  keep : ∀ b o, h.get? b = some o → H b = none → b ∉ fs → b ∉ ex → h'.get? b = some o
  slot : ∀ b o, h.get? b = some o → H b = none → b ∈ fs → b ∉ ex → ∃ sl, h'.get? b = some { o with slots := sl }
  free : ∀ b o, h.get? b = some o → H b = none → b ∉ ex → H' b = none
  there : ∀ b o, h.get? b = some o → b ∉ ex → ∃ o', h'.get? b = some o'
  tups : ∀ b xs, H b = some (.tup xs) → H' b = some (.tup xs)
  frzs : ∀ b o u, H b = some (.frz o u) → H' b = some (.frz o u)
  tbls : ∀ b ps, H b = some (.tbl ps) → ∃ more, H' b = some (.tbl (ps ++ more))
section
variable {fs fs' ex ex' : List Addr} {H H1 H2 : Hp} {h h1 h2 h' : Heap} {a x e : Addr} {o : HO}
theorem Un.any (u : Un fs ex H H1 h h1) {b : Addr} {ob : Obj} (q : h.get? b = some ob) (n : H b = none) (hx : b ∉ ex) : ∃ sl, h1.get? b = some { ob with slots := sl } := by
  by_cases hb : b ∈ fs
  · exact u.slot b ob q n hb hx
  · exact ⟨ob.slots, u.keep b ob q n hb hx⟩
theorem Un.kept (k : ∀ b u, h.get? b = some u → h'.get? b = some u) : Un fs ex H H h h' :=
  ⟨fun b ob q _ _ _ => k b ob q, fun b ob q _ _ _ => ⟨ob.slots, k b ob q⟩, fun _ _ _ n _ => n, fun b ob q _ => ⟨ob, k b ob q⟩, fun _ _ q => q, fun _ _ _ q => q, fun _ ps q => ⟨#[], by rw [q]; simp⟩⟩
theorem Un.refl : Un fs ex H H h h := Un.kept fun _ _ q => q
theorem Un.laid (k : ∀ b u, h.get? b = some u → h'.get? b = some u) (hp : h.objs.size ≤ a) (hn : H a = none) : Un fs ex H (upd H a o) h h' where
  keep := fun b u q _ _ _ => k b u q
  slot := fun b u q _ _ _ => ⟨u.slots, k b u q⟩
  free := fun b u q n _ => by rw [upd_ne (Nat.ne_of_lt (Nat.lt_of_lt_of_le (Heap.lt_size q) hp))]; exact n
  there := fun b u q _ => ⟨u, k b u q⟩
  tups := fun b xs q => by rw [upd_ne (ne_of_none q hn)]; exact q
  frzs := fun b u xs q => by rw [upd_ne (ne_of_none q hn)]; exact q
  tbls := fun b ps q => ⟨#[], by rw [upd_ne (ne_of_none q hn), q]; simp⟩
theorem Un.write (mu : Mut (H x)) (he : e = x ∨ H e = some (.own x)) (k : ∀ b u, b ≠ e → h.get? b = some u → h'.get? b = some u) (heo : ∃ u, h'.get? e = some u) : Un fs ex H (upd H x o) h h' := by
  have hx : ∀ b, H b = none → b ≠ x := fun b n z => by subst z; rw [n] at mu; exact mu
  have hb : ∀ b, H b = none → b ≠ e := fun b n z => by
    subst z
    rcases he with r | r
    · exact hx b n r
    · rw [n] at r; cases r
  have hm : ∀ b u, H b = some u → ¬ Mut (some u) → b ≠ x := fun b u q nm z => by subst z; rw [q] at mu; exact nm mu
  refine ⟨fun b u q n _ _ => k b u (hb b n) q, fun b u q n _ _ => ⟨u.slots, k b u (hb b n) q⟩, fun b u q n _ => by rw [upd_ne (hx b n)]; exact n, fun b u q _ => ?_,
    fun b xs q => by rw [upd_ne (hm b _ q fun z => z)]; exact q, fun b u xs q => by rw [upd_ne (hm b _ q fun z => z)]; exact q, fun b ps q => ⟨#[], by rw [upd_ne (hm b _ q fun z => z), q]; simp⟩⟩
  by_cases hbe : b = e
  · subst hbe; exact heo
  · exact ⟨u, k b u hbe q⟩
end
noncomputable def trk (h : Heap) (H : Hp) : List Addr := (List.range h.objs.size).filter fun a => (H a).isSome
noncomputable def hidT (h : Heap) (H : Hp) : Heap := PySem.W.hideAll h (trk h H)
theorem hidT_size (h : Heap) (H : Hp) : (hidT h H).objs.size = h.objs.size := PySem.W.hideAll_size _ _
theorem hidT_get {h : Heap} {H : Hp} {b : Addr} {o : Obj} (e : h.get? b = some o) (n : H b = none) : (hidT h H).get? b = some o :=
  PySem.W.hideAll_get _ e fun hm => by
    have q : (H b).isSome = true := (List.mem_filter.mp hm).2
    rw [n] at q; simp at q
theorem of_hidT {h : Heap} {H : Hp} {b : Addr} {o : Obj} (e : (hidT h H).get? b = some o) : h.get? b = some o ∧ H b = none := by
  have e' : h.get? b = some o := PySem.W.of_hideAll (trk h H) e
  refine ⟨e', ?_⟩
  cases q : H b with
  | none => rfl
  | some x =>
    have hm : b ∈ trk h H := List.mem_filter.mpr ⟨List.mem_range.mpr (Heap.lt_size e'), by simp [q]⟩
    have z : (hidT h H).get? b = none := PySem.W.hideAll_none (trk h H) hm
    rw [z] at e; cases e
end L2
namespace L2
open PySem PySem.Spec PyProof.Rows
structure Mod (K : PySem.W.Frag) (mg : Str → Option Value) (base : Heap) : Prop where
  kin : K.In base
  glob : base.Ns mainGlobals mg
  blt : ∃ mb, base.Ns builtinsNs mb ∧ ∀ x : Str, x ≠ "__name__" → mb x = bootBuiltins x
  nolimit : base.NoLimit
structure Cx where
  prog : Program
  w : World
  K : PySem.W.Frag
  mg : Str → Option Value
  base : Heap
  A : Around
  N : List Str
  s₀ : Shared
  H₀ : Hp
  env : Env
  outer : List Env
  stack : List Env
  ex : List Addr
  fn : Str → Bool
  calm : Bool
  pn : List (Addr × Obj)
  xe : Value → Shared → Prop
noncomputable def frs (l : List Env) : List Addr := l.filterMap (·.frame)
noncomputable abbrev Cx.fs (X : Cx) : List Addr := frs X.outer
noncomputable def Vis (sc : Scope) (x : Str) : Prop := sc.names.lookup x = some .local ∨ sc.names.lookup x = some .cell ∨ sc.names.lookup x = some .free
noncomputable def Loc (sc : Scope) (x : Str) : Prop := sc.names.lookup x = some .local ∨ sc.names.lookup x = some .cell
noncomputable def Look (env : Env) (h : Heap) (m : Str → Option Value) (x : Str) (u : Value) : Prop :=
  (env.kindOf x = some .local ∧ m x = some u) ∨ ((env.kindOf x = some .cell ∨ env.kindOf x = some .free) ∧ ∃ c, env.cells.lookup x = some c ∧ h.IsCell c (some u))
structure Cx.Ok (X : Cx) : Prop where
  mod : Mod X.K X.mg X.base
  kind : X.env.scope.kind = .function
  glob : X.env.globals = mainGlobals
  blt : X.env.builtins = builtinsNs
  above : X.s₀.heap.objs.size ≤ X.env.locals
  inj : ∀ x y c, X.env.cells.lookup x = some c → X.env.cells.lookup y = some c → x = y
  has : ∀ x, (X.env.kindOf x = some .cell ∨ X.env.kindOf x = some .free) → ∃ c, X.env.cells.lookup x = some c
  cab : ∀ x c, X.fn x = true → X.env.cells.lookup x = some c → X.s₀.heap.objs.size ≤ c
  hd : X.calm = true → X.A.handled = none
  frames : X.A.frames = some X.stack
  stk : X.stack = X.outer ∨ (X.stack = X.env :: X.outer ∧ X.env.frame = some X.env.locals)
  exf : ∀ b ∈ X.ex, b ≠ X.env.locals ∧ ∀ x c, X.env.cells.lookup x = some c → c ≠ b
  bs : ∀ b o, X.base.get? b = some o → X.s₀.heap.get? b = some o ∧ X.H₀ b = none
  bsz : X.base.objs.size ≤ X.s₀.heap.objs.size
  noex : ∀ b o, X.base.get? b = some o → b ∉ X.ex
  exfs : ∀ b ∈ X.ex, b ∉ X.fs
  funs : X.s₀.heap.FunFrames X.base X.outer
  frf : ∀ b ∈ X.fs, X.H₀ b = none
structure Inv (X : Cx) (pins : List (Addr × Obj)) (σ : List (Option V)) (H : Hp) (s : Shared) : Prop where
  ok : X.Ok
  os : s.os = X.s₀.os
  bare : AllBare s.gens
  base : Un X.fs X.ex X.H₀ H X.s₀.heap s.heap
  loc : ∃ m, s.heap.Ns X.env.locals m ∧ ∀ (i : Nat) (x : Str) (v : V), X.N[i]? = some x → σ[i]? = some (some v) → Vis X.env.scope x → ∃ u, RelV v u ∧ Look X.env s.heap m x u
  cell : ∀ x c, X.env.cells.lookup x = some c → ∃ v, s.heap.IsCell c v
  free : H X.env.locals = none
  freeC : ∀ x c, X.env.cells.lookup x = some c → H c = none
  pin : ∀ p ∈ X.pn ++ pins, s.heap.get? p.1 = some p.2 ∧ H p.1 = none ∧ p.1 ≠ X.env.locals ∧ p.1 ∉ X.fs ∧ ∀ v, p.2.data ≠ .cell v
  hok : HOk X.prog X.w H s.heap
  len : σ.length = X.N.length
section
variable {X : Cx} {pins : List (Addr × Obj)} {σ : List (Option V)} {H H' : Hp} {s : Shared} {h' : Heap}
theorem Cx.Ok.nofr (ok : X.Ok) {b : Addr} {o : Obj} (e : X.base.get? b = some o) : b ∉ X.fs := fun hb => by
  have := (ok.funs.mem hb).1
  rw [e] at this; cases this
theorem Inv.bs (I : Inv X pins σ H s) : ∀ b o, X.base.get? b = some o → s.heap.get? b = some o ∧ H b = none := fun b o e =>
  ⟨I.base.keep b o (I.ok.bs b o e).1 (I.ok.bs b o e).2 (I.ok.nofr e) (I.ok.noex b o e), I.base.free b o (I.ok.bs b o e).1 (I.ok.bs b o e).2 (I.ok.noex b o e)⟩
theorem Inv.bk (I : Inv X pins σ H s) : ∀ b o, X.base.get? b = some o → s.heap.get? b = some o := fun b o e => (I.bs b o e).1
theorem Inv.mod (I : Inv X pins σ H s) : Mod X.K X.mg X.base := I.ok.mod
theorem Inv.kIn (I : Inv X pins σ H s) : X.K.In s.heap := I.ok.mod.kin.keeps I.bk
theorem Inv.lt (I : Inv X pins σ H s) : X.env.locals < s.heap.objs.size := let ⟨_, hn, _⟩ := I.loc; hn.lt
theorem Inv.sz (I : Inv X pins σ H s) : X.s₀.heap.objs.size ≤ s.heap.objs.size := Nat.le_trans I.ok.above (Nat.le_of_lt I.lt)
theorem Inv.nofs (I : Inv X pins σ H s) {a : Addr} (h : s.heap.objs.size ≤ a) : a ∉ X.fs := fun hb => by
  obtain ⟨_, o, ho, _⟩ := I.ok.funs.mem hb
  exact absurd (Nat.lt_of_lt_of_le (Heap.lt_size ho) (Nat.le_trans I.sz h)) (Nat.lt_irrefl _)
theorem Inv.cne (I : Inv X pins σ H s) : ∀ x c, X.env.cells.lookup x = some c → c ≠ X.env.locals := fun x c e z => by
  obtain ⟨v, o, ho, hd⟩ := I.cell x c e
  obtain ⟨m, ⟨o', es, ep, ho', hd', _⟩, _⟩ := I.loc
  rw [z, ho'] at ho; cases ho; rw [hd'] at hd; cases hd
theorem Inv.funs (I : Inv X pins σ H s) : s.heap.FunFrames X.base X.outer := by
  have all : ∀ (l : List Env), (∀ b ∈ frs l, b ∈ X.fs) → X.s₀.heap.FunFrames X.base l → s.heap.FunFrames X.base l := by
    intro l
    induction l with
    | nil => intro _ _; trivial
    | cons env r ih =>
      intro hs hl
      obtain ⟨hk, ⟨L, o, hf, hn, ho, hd⟩, hr⟩ := hl
      have hL : L ∈ X.fs := hs L (by unfold frs; rw [List.filterMap_cons, hf]; exact List.mem_cons_self)
      obtain ⟨sl, e⟩ := I.base.slot L o ho (I.ok.frf L hL) hL fun z => I.ok.exfs L z hL
      exact ⟨hk, ⟨L, _, hf, hn, e, hd⟩, ih (fun b hb => hs b (by unfold frs; rw [List.filterMap_cons, hf]; exact List.mem_cons_of_mem _ hb)) hr⟩
  exact all X.outer (fun _ hb => hb) I.ok.funs
theorem Inv.stack (I : Inv X pins σ H s) : s.heap.FunFrames X.base X.stack := by
  rcases I.ok.stk with e | ⟨e, hf⟩
  · rw [e]; exact I.funs
  · rw [e]
    obtain ⟨m, hn, _⟩ := I.loc
    refine .cons (by rw [I.ok.kind]; decide) hf hn ?_ I.funs
    exact Heap.get?_none_of_le (Nat.le_trans I.ok.bsz I.ok.above)
theorem Inv.stkSub (I : Inv X pins σ H s) : ∀ b ∈ frs X.stack, b ∈ X.env.locals :: X.fs := fun b hb => by
  rcases I.ok.stk with e | ⟨e, hf⟩
  · rw [e] at hb; exact List.mem_cons_of_mem _ hb
  · rw [e] at hb
    unfold frs at hb
    rw [List.filterMap_cons, hf] at hb
    exact hb
theorem Inv.stkFree (I : Inv X pins σ H s) : ∀ b ∈ frs X.stack, H b = none := fun b hb => by
  rcases List.mem_cons.mp (I.stkSub b hb) with e | hb
  · rw [e]; exact I.free
  · obtain ⟨_, o, ho, _⟩ := I.ok.funs.mem hb
    exact I.base.free b o ho (I.ok.frf b hb) fun z => I.ok.exfs b z hb
theorem Inv.step {g' : Array GenState} {t' : Nat} {d' : Drawn} {ch : List Addr} (I : Inv X pins σ H s)
    (hch : ∀ b ∈ ch, (b ∈ X.ex ∨ X.s₀.heap.objs.size ≤ b) ∧ b ≠ X.env.locals ∧ (∀ x c, X.env.cells.lookup x = some c → c ≠ b) ∧ ∀ p ∈ X.pn ++ pins, p.1 ≠ b)
    (keep : ∀ b o, b ≠ X.env.locals → b ∉ X.fs → b ∉ ch → s.heap.get? b = some o → H b = none → h'.get? b = some o)
    (slot : ∀ b o, b ≠ X.env.locals → b ∈ X.fs → b ∉ ch → s.heap.get? b = some o → H b = none → ∃ sl, h'.get? b = some { o with slots := sl }) (free : ∀ b o, b ∉ ch → s.heap.get? b = some o → H b = none → H' b = none)
    (there : ∀ b o, b ∉ ch → s.heap.get? b = some o → ∃ o', h'.get? b = some o')
    (tups : ∀ b xs, H b = some (.tup xs) → H' b = some (.tup xs)) (frzs : ∀ b o u, H b = some (.frz o u) → H' b = some (.frz o u)) (tbls : ∀ b ps, H b = some (.tbl ps) → ∃ more, H' b = some (.tbl (ps ++ more)))
    (ns : ∀ m, s.heap.Ns X.env.locals m → h'.Ns X.env.locals m) (hok : HOk X.prog X.w H' h') (hg : AllBare g') :
    Inv X pins σ H' { s with heap := h', gens := g', drawn := d', toks := t' } := by
  have neL : ∀ b o, X.s₀.heap.get? b = some o → b ≠ X.env.locals := fun b o e => Nat.ne_of_lt (Nat.lt_of_lt_of_le (Heap.lt_size e) I.ok.above)
  have neC : ∀ b o, X.s₀.heap.get? b = some o → b ∉ X.ex → b ∉ ch := fun b o e hx hb => by
    rcases (hch b hb).1 with z | z
    · exact hx z
    · exact absurd (Nat.lt_of_lt_of_le (Heap.lt_size e) z) (Nat.lt_irrefl _)
  have cellK : ∀ x c, X.env.cells.lookup x = some c → ∀ v, s.heap.IsCell c v → h'.IsCell c v := fun x c e v ⟨o, ho, hd⟩ => by
    have nch : c ∉ ch := fun z => (hch c z).2.2.1 x c e rfl
    by_cases hc : c ∈ X.fs
    · obtain ⟨sl, q⟩ := slot c o (I.cne x c e) hc nch ho (I.freeC x c e)
      exact ⟨_, q, hd⟩
    · exact ⟨o, keep c o (I.cne x c e) hc nch ho (I.freeC x c e), hd⟩
  refine ⟨I.ok, I.os, hg, ⟨fun b o e n hb hx => ?_, fun b o e n hb hx => ?_, fun b o e n hx => ?_, fun b o e hx => ?_, fun b xs e => tups b xs (I.base.tups b xs e), fun b o xs e => frzs b o xs (I.base.frzs b o xs e), fun b ps e => ?_⟩, ?_, fun x c e => ?_, ?_, fun x c e => ?_, fun p hp => ?_, hok, I.len⟩
  · exact keep b o (neL b o e) hb (neC b o e hx) (I.base.keep b o e n hb hx) (I.base.free b o e n hx)
  · obtain ⟨sl, e1⟩ := I.base.slot b o e n hb hx
    obtain ⟨sl', e2⟩ := slot b _ (neL b o e) hb (neC b o e hx) e1 (I.base.free b o e n hx)
    exact ⟨sl', e2⟩
  · obtain ⟨o', e1⟩ := I.base.there b o e hx
    exact free b o' (neC b o e hx) e1 (I.base.free b o e n hx)
  · obtain ⟨o', e1⟩ := I.base.there b o e hx
    exact there b o' (neC b o e hx) e1
  · obtain ⟨m1, e1⟩ := I.base.tbls b ps e
    obtain ⟨m2, e2⟩ := tbls b _ e1
    exact ⟨m1 ++ m2, by rw [e2, Array.append_assoc]⟩
  · obtain ⟨m, hn, hl⟩ := I.loc
    refine ⟨m, ns m hn, fun i x v e1 e2 e3 => ?_⟩
    obtain ⟨u, r, l⟩ := hl i x v e1 e2 e3
    refine ⟨u, r, ?_⟩
    rcases l with l | ⟨k, c, e, z⟩
    · exact .inl l
    · exact .inr ⟨k, c, e, cellK x c e _ z⟩
  · obtain ⟨v, z⟩ := I.cell x c e
    exact ⟨v, cellK x c e v z⟩
  · obtain ⟨m, ⟨o, _, _, ho, _⟩, _⟩ := I.loc
    exact free _ o (fun z => (hch _ z).2.1 rfl) ho I.free
  · obtain ⟨v, o, ho, hd⟩ := I.cell x c e
    exact free c o (fun z => (hch c z).2.2.1 x c e rfl) ho (I.freeC x c e)
  · obtain ⟨e, n, ne, nf, d⟩ := I.pin p hp
    have nch : p.1 ∉ ch := fun z => (hch p.1 z).2.2.2 p hp rfl
    exact ⟨keep p.1 p.2 ne nf nch e n, free p.1 p.2 nch e n, ne, nf, d⟩
theorem Inv.un {t' : Nat} (I : Inv X pins σ H s) (u : Un X.fs [] H H' s.heap h') (hok : HOk X.prog X.w H' h') : Inv X pins σ H' { s with heap := h', toks := t' } := by
  obtain ⟨m, ⟨o, es, ep, ho, r⟩, _⟩ := id I.loc
  obtain ⟨sl, hL⟩ := u.any ho I.free (by simp)
  exact I.step (g' := s.gens) (d' := s.drawn) (ch := []) (fun _ z => nomatch z) (fun b o _ hb _ e n => u.keep b o e n hb (by simp)) (fun b o _ hb _ e n => u.slot b o e n hb (by simp)) (fun b o _ e n => u.free b o e n (by simp)) (fun b o _ e => u.there b o e (by simp)) u.tups u.frzs u.tbls (fun m' hm => by
    obtain ⟨o', es', ep', ho', r'⟩ := hm
    rw [ho] at ho'; cases ho'
    exact ⟨_, es', ep', hL, r'⟩) hok I.bare
theorem Inv.call {g' : Array GenState} {t' : Nat} {d' : Drawn} {ch : List Addr} (I : Inv X pins σ H s) (u : Un (frs X.stack) ch H H' s.heap h') (hok : HOk X.prog X.w H' h') (hg : AllBare g')
    (hch : ∀ b ∈ ch, (b ∈ X.ex ∨ X.s₀.heap.objs.size ≤ b) ∧ b ≠ X.env.locals ∧ (∀ x c, X.env.cells.lookup x = some c → c ≠ b) ∧ ∀ p ∈ X.pn ++ pins, p.1 ≠ b) :
    Inv X pins σ H' { s with heap := h', gens := g', drawn := d', toks := t' } := by
  obtain ⟨m, ⟨o, es, ep, ho, r⟩, _⟩ := id I.loc
  obtain ⟨sl, hL⟩ := u.any ho I.free fun z => (hch _ z).2.1 rfl
  exact I.step (ch := ch) hch (fun b o hL hb hc e n => u.keep b o e n (fun z => (List.mem_cons.mp (I.stkSub b z)).elim hL hb) hc) (fun b o _ _ hc e n => u.any e n hc) (fun b o hc e n => u.free b o e n hc) (fun b o hc e => u.there b o e hc) u.tups u.frzs u.tbls (fun m' hm => by
    obtain ⟨o', es', ep', ho', r'⟩ := hm
    rw [ho] at ho'; cases ho'
    exact ⟨_, es', ep', hL, r'⟩) hok hg
theorem Inv.turned {t' : Nat} {it : Addr} (I : Inv X pins σ H s) (k : ∀ b o, b ≠ it → s.heap.get? b = some o → h'.get? b = some o) (hn : H it = none) (hL : it ≠ X.env.locals)
    (h1 : it ∈ X.ex ∨ X.s₀.heap.objs.size ≤ it) (h2 : ∀ x c, X.env.cells.lookup x = some c → c ≠ it) (h3 : ∀ p ∈ X.pn ++ pins, p.1 ≠ it) : Inv X pins σ H { s with heap := h', toks := t' } := by
  have nit : ∀ b u, H b = some u → b ≠ it := fun b u e z => by rw [z, hn] at e; cases e
  refine I.step (g' := s.gens) (d' := s.drawn) (ch := [it]) (fun b hb => ?_) (fun b o _ _ hc e _ => k b o (fun z => hc (by simp [z])) e) (fun b o _ _ hc e _ => ⟨o.slots, k b o (fun z => hc (by simp [z])) e⟩) (fun _ _ _ _ n => n)
    (fun b o hc e => ⟨o, k b o (fun z => hc (by simp [z])) e⟩) (fun _ _ e => e) (fun _ _ _ e => e) (fun b ps e => ⟨#[], by rw [e]; simp⟩) (fun m hm => ?_) (fun b u e => ?_) I.bare
  · have e : b = it := by simpa using hb
    subst e
    exact ⟨h1, hL, h2, h3⟩
  · obtain ⟨o, es, ep, ho, r⟩ := hm
    exact ⟨o, es, ep, k _ o (Ne.symm hL) ho, r⟩
  · refine (I.hok b u e).stay (fun c v hc q => k c v ?_ q) (fun _ q => q) fun _ _ q => q
    rcases hc with z | z
    · rw [z]; exact nit b u e
    · exact nit c _ z
theorem Inv.tok (I : Inv X pins σ H s) (t : Nat) : Inv X pins σ H { s with toks := t } := I.un (h' := s.heap) (t' := t) Un.refl I.hok
theorem Inv.kept {t' : Nat} (I : Inv X pins σ H s) (k : ∀ b u, s.heap.get? b = some u → h'.get? b = some u) : Inv X pins σ H { s with heap := h', toks := t' } := I.un (Un.kept k) (I.hok.kept k)
theorem Inv.laid {a : Addr} {o : HO} {t' : Nat} (I : Inv X pins σ H s) (k : ∀ b u, s.heap.get? b = some u → h'.get? b = some u) (hp : s.heap.objs.size ≤ a) (new : ObjOk X.prog X.w (upd H a o) h' a o) :
    Inv X pins σ (upd H a o) { s with heap := h', toks := t' } := I.un (Un.laid k hp (I.hok.fresh hp)) (I.hok.laid k hp new)
theorem Inv.write {x e : Addr} {o : HO} {t' : Nat} (I : Inv X pins σ H s) (mu : Mut (H x)) (he : e = x ∨ H e = some (.own x)) (k : ∀ b u, b ≠ e → s.heap.get? b = some u → h'.get? b = some u) (heo : ∃ u, h'.get? e = some u)
    (new : ObjOk X.prog X.w (upd H x o) h' x o) : Inv X pins σ (upd H x o) { s with heap := h', toks := t' } := I.un (Un.write mu he k heo) (I.hok.write mu he k heo new)
theorem Inv.pins_of {pins' : List (Addr × Obj)} (I : Inv X pins σ H s) (h : ∀ p ∈ pins', s.heap.get? p.1 = some p.2 ∧ H p.1 = none ∧ p.1 ≠ X.env.locals ∧ p.1 ∉ X.fs ∧ ∀ v, p.2.data ≠ .cell v) : Inv X pins' σ H s :=
  ⟨I.ok, I.os, I.bare, I.base, I.loc, I.cell, I.free, I.freeC, fun p hp => (List.mem_append.mp hp).elim (fun z => I.pin p (List.mem_append_left _ z)) (h p), I.hok, I.len⟩
theorem nodup_ix {N : List Str} (hN : N.Nodup) {i j : Nat} {x : Str} (a : N[i]? = some x) (b : N[j]? = some x) : i = j := by
  obtain ⟨h1, e1⟩ := List.getElem?_eq_some_iff.mp a
  obtain ⟨h2, e2⟩ := List.getElem?_eq_some_iff.mp b
  exact (List.getElem_inj hN).mp (e1.trans e2.symm)
theorem store_ok2 {M : Model} {A : Around} {E : Value → Shared → Prop} {i : Nat} {x : Str} {v : V} {u : Value} {Q : Unit → Shared → Prop} (I : Inv X pins σ H s) (hN : X.N.Nodup) (hi : X.N[i]? = some x) (hx : Loc X.env.scope x) (r : RelV v u)
    (h : ∀ s', Inv X pins (σ.set i (some v)) H s' → (∃ a, Heap.SameBut a s.heap s'.heap ∧ (a = X.env.locals ∨ X.env.cells.lookup x = some a)) → Q () s') (hf : X.fn x = true ∨ X.env.scope.names.lookup x = some .local := by first | exact .inl rfl | exact .inr rfl | assumption) : wpAny M A (storeName X.env x u) Q E s := by
  obtain ⟨m, hn, hl⟩ := id I.loc
  have hcls : (X.env.scope.kind == .class || (X.env.scope.kind == .module && X.env.locals != X.env.globals)) = false := by rw [I.ok.kind]; rfl
  have hiσ : i < σ.length := by rw [I.len]; exact (List.getElem?_eq_some_iff.mp hi).1
  have cne := I.cne
  have tracked : ∀ {a : Addr} {h' : Heap}, (∃ o, s.heap.get? a = some o ∧ H a = none) → Heap.SameBut a s.heap h' → HOk X.prog X.w H h' := fun {a h'} ha hs b ob e => by
    obtain ⟨_, _, hfree⟩ := ha
    refine (I.hok b ob e).stay (fun c w' hc q => (hs.2 c ?_).trans q) (fun _ q => q) fun _ _ q => q
    rintro rfl
    rcases hc with rfl | hc
    · rw [hfree] at e; cases e
    · rw [hfree] at hc; cases hc
  rcases hx with hk | hk
  · refine wpAny_storeName_local hk hn (fun h' hn' hs => ?_) hcls
    obtain ⟨oL, _, _, hoL, _⟩ := id hn
    refine h _ ⟨I.ok, I.os, I.bare, ⟨fun b o e n hb hx => ?_, fun b o e n hb hx => ?_, I.base.free, fun b o e hx => ?_, I.base.tups, I.base.frzs, I.base.tbls⟩, ⟨_, hn', fun j y v' e1 e2 e3 => ?_⟩, fun y c e => ?_, I.free, I.freeC, fun p hp => ?_, tracked ⟨oL, hoL, I.free⟩ hs, by simpa using I.len⟩ ⟨_, hs, .inl rfl⟩
    · exact (hs.2 b (Nat.ne_of_lt (Nat.lt_of_lt_of_le (Heap.lt_size e) I.ok.above))).trans (I.base.keep b o e n hb hx)
    · obtain ⟨sl, e1⟩ := I.base.slot b o e n hb hx
      exact ⟨sl, (hs.2 b (Nat.ne_of_lt (Nat.lt_of_lt_of_le (Heap.lt_size e) I.ok.above))).trans e1⟩
    · obtain ⟨o', e1⟩ := I.base.there b o e hx
      exact ⟨o', (hs.2 b (Nat.ne_of_lt (Nat.lt_of_lt_of_le (Heap.lt_size e) I.ok.above))).trans e1⟩
    · by_cases hj : j = i
      · subst hj
        rw [hi] at e1; cases e1
        rw [List.getElem?_set_self hiσ] at e2
        cases e2
        exact ⟨u, r, .inl ⟨hk, by simp⟩⟩
      · rw [List.getElem?_set_ne (Ne.symm hj)] at e2
        obtain ⟨u', r', q⟩ := hl j y v' e1 e2 e3
        refine ⟨u', r', ?_⟩
        rcases q with ⟨k, e⟩ | ⟨k, c, e, z⟩
        · refine .inl ⟨k, ?_⟩
          have : y ≠ x := fun e => hj (nodup_ix hN e1 (e ▸ hi))
          simp [this, e]
        · exact .inr ⟨k, c, e, z.sameBut hs (cne y c e)⟩
    · obtain ⟨w', z⟩ := I.cell y c e
      exact ⟨w', z.sameBut hs (cne y c e)⟩
    · obtain ⟨e, n, ne, nf, d⟩ := I.pin p hp
      exact ⟨(hs.2 p.1 ne).trans e, n, ne, nf, d⟩
  · have hfn : X.fn x = true := by
      rcases hf with z | z
      · exact z
      · rw [z] at hk; cases hk
    obtain ⟨c, hc⟩ := I.ok.has x (.inl hk)
    obtain ⟨w', z⟩ := I.cell x c hc
    refine wpAny_storeName_cell I.ok.kind hk hc z (fun h' hc' hs => ?_)
    obtain ⟨oc, hoc, hocd⟩ := id z
    refine h { s with heap := h' } ⟨I.ok, I.os, I.bare, ⟨fun b o e n hb hx => ?_, fun b o e n hb hx => ?_, I.base.free, fun b o e hx => ?_, I.base.tups, I.base.frzs, I.base.tbls⟩, ⟨m, hn.sameBut hs (Ne.symm (cne x c hc)), fun j y v' e1 e2 e3 => ?_⟩, fun y c' e => ?_, I.free, I.freeC, fun p hp => ?_, tracked ⟨oc, hoc, I.freeC x c hc⟩ hs, by simpa using I.len⟩ ⟨c, hs, .inr hc⟩
    · exact (hs.2 b (Nat.ne_of_lt (Nat.lt_of_lt_of_le (Heap.lt_size e) (I.ok.cab x c hfn hc)))).trans (I.base.keep b o e n hb hx)
    · obtain ⟨sl, e1⟩ := I.base.slot b o e n hb hx
      exact ⟨sl, (hs.2 b (Nat.ne_of_lt (Nat.lt_of_lt_of_le (Heap.lt_size e) (I.ok.cab x c hfn hc)))).trans e1⟩
    · obtain ⟨o', e1⟩ := I.base.there b o e hx
      exact ⟨o', (hs.2 b (Nat.ne_of_lt (Nat.lt_of_lt_of_le (Heap.lt_size e) (I.ok.cab x c hfn hc)))).trans e1⟩
    · by_cases hj : j = i
      · subst hj
        rw [hi] at e1; cases e1
        rw [List.getElem?_set_self hiσ] at e2
        cases e2
        exact ⟨u, r, .inr ⟨.inl hk, c, hc, hc'⟩⟩
      · rw [List.getElem?_set_ne (Ne.symm hj)] at e2
        obtain ⟨u', r', q⟩ := hl j y v' e1 e2 e3
        refine ⟨u', r', ?_⟩
        rcases q with q | ⟨k, c', e, z'⟩
        · exact .inl q
        · refine .inr ⟨k, c', e, z'.sameBut hs ?_⟩
          rintro rfl
          exact hj (nodup_ix hN e1 (I.ok.inj _ _ _ e hc ▸ hi))
    · by_cases hcc : c' = c
      · subst hcc; exact ⟨_, hc'⟩
      · obtain ⟨w2, z2⟩ := I.cell y c' e
        exact ⟨w2, z2.sameBut hs hcc⟩
    · obtain ⟨e, n, ne, nf, d⟩ := I.pin p hp
      refine ⟨(hs.2 p.1 ?_).trans e, n, ne, nf, d⟩
      intro q
      rw [q, hoc] at e
      have q' : oc = p.2 := Option.some.inj e
      exact d w' (by rw [← q']; exact hocd)
theorem store_ok {M : Model} {A : Around} {E : Value → Shared → Prop} {i : Nat} {x : Str} {v : V} {u : Value} {Q : Unit → Shared → Prop} (I : Inv X pins σ H s) (hN : X.N.Nodup) (hi : X.N[i]? = some x) (hx : Loc X.env.scope x) (r : RelV v u)
    (h : ∀ s', Inv X pins (σ.set i (some v)) H s' → Q () s') (hf : X.fn x = true ∨ X.env.scope.names.lookup x = some .local := by first | exact .inl rfl | exact .inr rfl | assumption) : wpAny M A (storeName X.env x u) Q E s :=
  store_ok2 I hN hi hx r (fun s' I' _ => h s' I') hf
theorem Inv.call' {s' : Shared} {ch : List Addr} (I : Inv X pins σ H s) (ho : s'.os = s.os) (u : Un (frs X.stack) ch H H' s.heap s'.heap) (hok : HOk X.prog X.w H' s'.heap) (hg : AllBare s'.gens)
    (hch : ∀ b ∈ ch, (b ∈ X.ex ∨ X.s₀.heap.objs.size ≤ b) ∧ b ≠ X.env.locals ∧ (∀ x c, X.env.cells.lookup x = some c → c ≠ b) ∧ ∀ p ∈ X.pn ++ pins, p.1 ≠ b) : Inv X pins σ H' s' := by
  obtain ⟨h', g', d', t', o'⟩ := s'
  have e : o' = s.os := ho
  subst e
  exact I.call (g' := g') (t' := t') (d' := d') u hok hg hch
end
noncomputable abbrev XK := Value → Option Addr → Hp → Prop
noncomputable abbrev St := List (Option V)
noncomputable abbrev VK := V → Hp → Prop
noncomputable abbrev TE := St → Hp → VK → Prop
noncomputable abbrev TT := St → Hp → (Bool → Hp → Prop) → Prop
noncomputable abbrev TA := St → Hp → (List V → Hp → Prop) → Prop
structure Ends where
  nx : St → Hp → Prop
  rt : VK
  bk : St → Hp → Prop := fun _ _ => False
  ct : St → Hp → Prop := fun _ _ => False
noncomputable abbrev TS := Ends → St → Hp → Prop
noncomputable def EP (X : Cx) (pins : List (Addr × Obj)) (σ : St) (Q : VK) (u : Value) (s' : Shared) : Prop := ∃ v H', Inv X pins σ H' s' ∧ RelV v u ∧ Q v H'
noncomputable def TP (X : Cx) (pins : List (Addr × Obj)) (σ : St) (Q : Bool → Hp → Prop) (b : Bool) (s' : Shared) : Prop := ∃ H', Inv X pins σ H' s' ∧ Q b H'
noncomputable def AP (X : Cx) (pins : List (Addr × Obj)) (σ : St) (Q : List V → Hp → Prop) (us : List Value) (s' : Shared) : Prop := ∃ vs H', Inv X pins σ H' s' ∧ Vals vs us ∧ Q vs H'
noncomputable def SP (X : Cx) (pins : List (Addr × Obj)) (D : Ends) (f : Flow) (s' : Shared) : Prop :=
  match f with
  | .next => ∃ σ' H', Inv X pins σ' H' s' ∧ D.nx σ' H'
  | .brk => ∃ σ' H', Inv X pins σ' H' s' ∧ D.bk σ' H'
  | .cont => ∃ σ' H', Inv X pins σ' H' s' ∧ D.ct σ' H'
  | .ret u => ∃ v σ' H', Inv X pins σ' H' s' ∧ RelV v u ∧ D.rt v H'
noncomputable def PE (X : Cx) (e : Expr) (t : TE) : Prop :=
  ∀ (pins : List (Addr × Obj)) (s : Shared) (σ : St) (H : Hp) (Q : VK), Inv X pins σ H s → t σ H Q → wpAny (model X.prog X.w) X.A (eval e X.env) (EP X pins σ Q) X.xe s
noncomputable def PT (X : Cx) (e : Expr) (t : TT) : Prop :=
  ∀ (pins : List (Addr × Obj)) (s : Shared) (σ : St) (H : Hp) (Q : Bool → Hp → Prop), Inv X pins σ H s → t σ H Q → wpAny (model X.prog X.w) X.A (isTrue e X.env (eval e X.env)) (TP X pins σ Q) X.xe s
noncomputable def PW (X : Cx) (e : Expr) (t : TT) : Prop :=
  ∀ (whole : Sem Value) (pins : List (Addr × Obj)) (s : Shared) (σ : St) (H : Hp) (Q : Bool → Hp → Prop), Inv X pins σ H s → t σ H Q → wpAny (model X.prog X.w) X.A (isTrue e X.env whole) (TP X pins σ Q) X.xe s
theorem PW.pt {X : Cx} {e : Expr} {t : TT} (h : PW X e t) : PT X e t := h _
noncomputable def PA (X : Cx) (es : List Expr) (t : TA) : Prop :=
  ∀ (pos : Pos) (pins : List (Addr × Obj)) (s : Shared) (σ : St) (H : Hp) (Q : List V → Hp → Prop), Inv X pins σ H s → t σ H Q → wpAny (model X.prog X.w) X.A (spliced (backTo pos (starEach es X.env))) (AP X pins σ Q) X.xe s
noncomputable def PS (X : Cx) (st : Stmt) (t : TS) : Prop :=
  ∀ (pins : List (Addr × Obj)) (s : Shared) (σ : St) (H : Hp) (D : Ends), Inv X pins σ H s → t D σ H → wpAny (model X.prog X.w) X.A (exec st X.env) (SP X pins D) X.xe s
noncomputable def PSs (X : Cx) (st : List Stmt) (t : TS) : Prop :=
  ∀ (pins : List (Addr × Obj)) (s : Shared) (σ : St) (H : Hp) (D : Ends), Inv X pins σ H s → t D σ H → wpAny (model X.prog X.w) X.A (execs st X.env) (SP X pins D) X.xe s
theorem thn {α : Type} {t : Sem α} {Q Q' : α → Shared → Prop} {M : Model} {A : Around} {E : Value → Shared → Prop} {s : Shared} (h : wpAny M A t Q E s) (hQ : ∀ a s, Q a s → Q' a s) : wpAny M A t Q' E s := wpAny_mono h hQ fun _ _ x => x
end L2
namespace L2
open PySem PySem.Spec PyProof.Rows
section
variable {X : Cx}
noncomputable def tVar (i : Nat) : TE := fun σ H Q => ∃ v, σ[i]? = some (some v) ∧ Q v H
noncomputable def tC (v : V) : TE := fun _ H Q => Q v H
theorem pe_var {i : Nat} {x : Str} {pos : Pos} (hN : X.N[i]? = some x) (hv : Vis X.env.scope x) (hd : (x == ("__debug__" : Str)) = false := by decide) (hcd : (x == ("__classdict__" : Str)) = false := by decide) : PE X (.Name x pos) (tVar i) := by
  intro pins s σ H Q I h
  obtain ⟨v, e, h⟩ := h
  obtain ⟨m, hn, hl⟩ := I.loc
  obtain ⟨u, r, l⟩ := hl i x v hN e hv
  have fin : EP X pins σ Q u s := ⟨v, H, I, r, h⟩
  rcases l with ⟨hk, hm⟩ | ⟨hk, c, hc, hcell⟩
  · exact wpAny_Name (wpAny_loadName_local I.ok.kind hk hn hm fin) hd
  · rcases hk with hk | hk
    · exact wpAny_Name (wpAny_loadName_cell I.ok.kind hk hc hcell fin) hd
    · exact wpAny_Name (wpAny_loadName_free I.ok.kind hk hc hcell fin hcd) hd
theorem pe_int {i j pos} : PE X (.Constant (.int i) j pos) (tC (.int i)) := fun _ _ _ H _ I h => wpAny_Constant_int ⟨.int i, H, I.tok _, ⟨_, rfl⟩, h⟩
theorem pe_bl {b j pos} : PE X (.Constant (.bool b) j pos) (tC (.bl b)) := fun _ _ _ H _ I h => Constant_bool ⟨.bl b, H, I, rfl, h⟩
theorem pe_non {j pos} : PE X (.Constant .none j pos) (tC .non) := fun _ _ _ H _ I h => Constant_none ⟨.non, H, I, rfl, h⟩
theorem pe_str {x j pos} : PE X (.Constant (.str x) j pos) (tC (.str x)) := fun _ _ _ H _ I h => Calls.Constant_str ⟨.str x, H, I.tok _, ⟨_, rfl⟩, h⟩
noncomputable def Gl (X : Cx) (x : Str) : Prop := X.env.kindOf x = some .globalImplicit
theorem ld_glob {E : Value → Shared → Prop} {pins : List (Addr × Obj)} {s : Shared} {σ : St} {H : Hp} {x : Str} {u : Value} {pos : Pos} {Q : Value → Shared → Prop} (I : Inv X pins σ H s) (hg : Gl X x) (hm : X.mg x = some u) (h : Q u s)
    (hd : (x == ("__debug__" : Str)) = false := by decide) : wpAny (model X.prog X.w) X.A (eval (.Name x pos) X.env) Q E s :=
  Calls.Name_function_global I.ok.kind hg (Calls.loadGlobal_global (by rw [I.ok.glob]; exact I.mod.glob.keeps I.bk) hm h) hd
theorem ld_blt {E : Value → Shared → Prop} {pins : List (Addr × Obj)} {s : Shared} {σ : St} {H : Hp} {x : Str} {u : Value} {pos : Pos} {Q : Value → Shared → Prop} (I : Inv X pins σ H s) (hg : Gl X x) (hm : X.mg x = none) (hv : bootBuiltins x = some u) (h : Q u s)
    (hn : x ≠ "__name__" := by decide) (hd : (x == ("__debug__" : Str)) = false := by decide) : wpAny (model X.prog X.w) X.A (eval (.Name x pos) X.env) Q E s := by
  obtain ⟨mb, h1, h2⟩ := I.mod.blt
  exact Calls.Name_function_global I.ok.kind hg (Calls.loadGlobal_builtin (by rw [I.ok.glob]; exact I.mod.glob.keeps I.bk) hm (by rw [I.ok.blt]; exact h1.keeps I.bk) ((h2 x hn).trans hv) h) hd
theorem pe_bltn {x : Str} {v : V} {u : Value} {pos : Pos} (hg : Gl X x) (hm : X.mg x = none) (hv : bootBuiltins x = some u) (r : RelV v u) (hn : x ≠ "__name__" := by decide) (hd : (x == ("__debug__" : Str)) = false := by decide) : PE X (.Name x pos) (tC v) :=
  fun _ _ _ H _ I h => ld_blt I hg hm hv ⟨v, H, I, r, h⟩ hn hd
variable {a b : Expr} {ta tb : TE} {pos : Pos}
noncomputable def PC (X : Cx) (op : CmpOp) (a b : Expr) (t : TE) : Prop :=
  ∀ (pins : List (Addr × Obj)) (s : Shared) (σ : St) (H : Hp) (Q : VK), Inv X pins σ H s → t σ H Q →
    wpAny (model X.prog X.w) X.A (eval a X.env) (fun v s₁ => wpAny (model X.prog X.w) X.A (eval b X.env) (fun u s₂ => wpAny (model X.prog X.w) X.A (compareOp op v u) (EP X pins σ Q) X.xe s₂) X.xe s₁) X.xe s
theorem nobehind (b : Expr) {op : CmpOp} (h : op ≠ .In) (h2 : op ≠ .NotIn) : behindInMarks op b = false := by
  have e1 : (op == CmpOp.In) = false := by cases op <;> first | rfl | exact absurd rfl h
  have e2 : (op == CmpOp.NotIn) = false := by cases op <;> first | rfl | exact absurd rfl h2
  cases b <;> simp [behindInMarks, e1, e2]
noncomputable def tIsN (ta : TE) : TE := fun σ H Q => ta σ H fun x H1 => Q (.bl (decide (x = .non))) H1
noncomputable def tNotN (ta : TE) : TE := fun σ H Q => ta σ H fun x H1 => Q (.bl (!decide (x = .non))) H1
theorem RelV.none_iff {x : V} {v : Value} (r : RelV x v) : (v == Value.none) = decide (x = .non) := by
  cases x with
  | non => cases r; rfl
  | bl _ => cases r; rfl
  | int _ => obtain ⟨t, rfl⟩ := r; rfl
  | str _ => obtain ⟨t, rfl⟩ := r; rfl
  | byt _ => obtain ⟨t, rfl⟩ := r; rfl
  | flt _ => obtain ⟨t, rfl⟩ := r; rfl
  | ref _ => cases r; rfl
  | ty _ => cases r; rfl
theorem pc_isN {j pos'} (ha : PE X a ta) : PC X .Is a (.Constant .none j pos') (tIsN ta) := by
  intro pins s σ H Q I h
  refine thn (ha pins s σ H _ I h) fun v s1 ⟨x, H1, I1, r1, q1⟩ => ?_
  exact Constant_none (is_none_gen ⟨.bl _, H1, I1, by rw [r1.none_iff]; rfl, q1⟩)
theorem pc_notN {j pos'} (ha : PE X a ta) : PC X .IsNot a (.Constant .none j pos') (tNotN ta) := by
  intro pins s σ H Q I h
  refine thn (ha pins s σ H _ I h) fun v s1 ⟨x, H1, I1, r1, q1⟩ => ?_
  exact Constant_none (isnot_none_gen ⟨.bl _, H1, I1, by rw [r1.none_iff]; rfl, q1⟩)
noncomputable def tB (t : TE) : TT := fun σ H Q => t σ H fun x H1 => ∃ c, x = .bl c ∧ Q c H1
theorem pe_cmp {op : CmpOp} {t : TE} (h : PC X op a b t) (h1 : behindInMarks op b = false := by first | exact nobehind _ (by decide) (by decide) | rfl) : PE X (.Compare a [op] [b] pos) t := fun pins s σ H Q I hw => wpAny_Compare1 (h pins s σ H Q I hw) h1
theorem pt_cmp {op : CmpOp} {t : TE} (h : PC X op a b t) (h1 : behindInMarks op b = false := by first | exact nobehind _ (by decide) (by decide) | rfl) : PT X (.Compare a [op] [b] pos) (tB t) := by
  intro pins s σ H Q I hw
  refine wpAny_isTrue_Compare1 (thn (h pins s σ H _ I hw) fun v s1 h1 => thn h1 fun u s2 h2 => thn h2 fun c s3 ⟨x, H1, I1, r1, q1⟩ => ?_) h1
  obtain ⟨d, rfl, q⟩ := q1
  cases r1
  exact wpAny_truthy_bool ⟨H1, I1, q⟩
theorem pt_val {e : Expr} {t : TE} (h : PE X e t) (he : ∀ whole, isTrue e X.env whole = (do let v ← whole; standAt e.pos; holding [v] (truthy v)) := by intro _; rfl) : PT X e (tB t) := by
  intro pins s σ H Q I hw
  refine isTrue_plain (thn (h pins s σ H _ I hw) fun v s1 ⟨x, H1, I1, r1, q1⟩ => ?_) (he _)
  obtain ⟨d, rfl, q⟩ := q1
  cases r1
  exact wpAny_truthy_bool ⟨H1, I1, q⟩
variable {tA tB' : TT} {rest : List Expr}
noncomputable def tAnd (t u : TT) : TT := fun σ H Q => t σ H fun c H1 => if c = true then u σ H1 Q else Q false H1
noncomputable def tOr (t u : TT) : TT := fun σ H Q => t σ H fun c H1 => if c = true then Q true H1 else u σ H1 Q
noncomputable def tNot (t : TT) : TT := fun σ H Q => t σ H fun c H1 => Q (!c) H1
theorem pw_and1 (ha : PT X a tA) : PW X (.BoolOp .And [a] pos) tA := by
  intro wh pins s σ H Q I h
  refine isTrue_and (thn (ha pins s σ H Q I h) fun c s1 e => ?_)
  cases c with
  | true => exact isTrue_and_nil e
  | false => exact e
theorem pw_or1 (ha : PT X a tA) : PW X (.BoolOp .Or [a] pos) tA := by
  intro wh pins s σ H Q I h
  refine isTrue_or (thn (ha pins s σ H Q I h) fun c s1 e => ?_)
  cases c with
  | false => exact isTrue_or_nil e
  | true => exact e
theorem pw_and (ha : PT X a tA) (hb : PW X (.BoolOp .And (b :: rest) pos) tB') : PW X (.BoolOp .And (a :: b :: rest) pos) (tAnd tA tB') := by
  intro wh pins s σ H Q I h
  refine isTrue_and (thn (ha pins s σ H _ I h) fun c s1 ⟨H1, I1, q1⟩ => ?_)
  cases c with
  | true => exact hb wh pins s1 σ H1 Q I1 q1
  | false => exact ⟨H1, I1, q1⟩
theorem pw_or (ha : PT X a tA) (hb : PW X (.BoolOp .Or (b :: rest) pos) tB') : PW X (.BoolOp .Or (a :: b :: rest) pos) (tOr tA tB') := by
  intro wh pins s σ H Q I h
  refine isTrue_or (thn (ha pins s σ H _ I h) fun c s1 ⟨H1, I1, q1⟩ => ?_)
  cases c with
  | true => exact ⟨H1, I1, q1⟩
  | false => exact hb wh pins s1 σ H1 Q I1 q1
theorem pt_not (ha : PT X a tA) : PT X (.UnaryOp .Not a pos) (tNot tA) := by
  intro pins s σ H Q I h
  exact isTrue_not (ha pins s σ H (fun c H1 => Q (!c) H1) I h)
noncomputable def tAndV (ta tb : TE) : TE := fun σ H Q => ta σ H fun x H1 => ∃ c, x = .bl c ∧ if c = true then tb σ H1 Q else Q (.bl false) H1
noncomputable def tNotV (ta : TE) : TE := fun σ H Q => ta σ H fun x H1 => ∃ c, x = .bl c ∧ Q (.bl (!c)) H1
theorem pe_one {op} {t : TE} (h : PE X a t) : PE X (.BoolOp op [a] pos) t := fun pins s σ H Q I hw => BoolOp_one (h pins s σ H Q I hw)
theorem pe_and (ha : PE X a ta) (hb : PE X (.BoolOp .And (b :: rest) pos) tb) : PE X (.BoolOp .And (a :: b :: rest) pos) (tAndV ta tb) := by
  intro pins s σ H Q I h
  refine BoolOp_and (thn (ha pins s σ H _ I h) fun v s1 ⟨x, H1, I1, r1, q1⟩ => ?_)
  obtain ⟨c, rfl, q1⟩ := q1
  cases r1
  refine wpAny_truthy_bool ?_
  cases c with
  | true => exact hb pins s1 σ H1 Q I1 q1
  | false => exact ⟨.bl false, H1, I1, rfl, q1⟩
theorem pe_not (ha : PE X a ta) : PE X (.UnaryOp .Not a pos) (tNotV ta) := by
  intro pins s σ H Q I h
  refine UnaryOp_ (thn (ha pins s σ H _ I h) fun v s1 ⟨x, H1, I1, r1, q1⟩ => ?_)
  obtain ⟨c, rfl, q1⟩ := q1
  cases r1
  exact not_of (wpAny_truthy_bool ⟨.bl (!c), H1, I1, rfl, q1⟩)
noncomputable def tIf (t : TT) (ta tb : TE) : TE := fun σ H Q => t σ H fun c H1 => if c = true then ta σ H1 Q else tb σ H1 Q
theorem pe_ifExp {c : Expr} (hc : PT X c tA) (ha : PE X a ta) (hb : PE X b tb) : PE X (.IfExp c a b pos) (tIf tA ta tb) := by
  intro pins s σ H Q I h
  refine wpAny_IfExp (thn (hc pins s σ H _ I h) fun d s1 ⟨H1, I1, q1⟩ => ?_)
  cases d with
  | true => exact ha pins s1 σ H1 Q I1 q1
  | false => exact hb pins s1 σ H1 Q I1 q1
end
end L2
namespace L2
open PySem PySem.Spec PyProof.Rows
noncomputable def SqL (K : PySem.W.Frag) (H : Hp) (a : Addr) (xs : List V) : Prop :=
  Rd H a (.lst xs) ∨
    ∃ (o : Obj) (its : Array Value) (n : Nat), K.lookup a = some o ∧ o.cls = .type "list" ∧ o.dict = none ∧ o.data = .seq its n ∧ its.size ≤ sizeLine ∧ Vals xs its.toList
noncomputable def SqT (K : PySem.W.Frag) (H : Hp) (a : Addr) (xs : List V) : Prop :=
  Rd H a (.tup xs) ∨
    ∃ (o : Obj) (its : Array Value) (n : Nat), K.lookup a = some o ∧ o.cls = .type "tuple" ∧ o.data = .seq its n ∧ its.size ≤ sizeLine ∧ Vals xs its.toList
noncomputable def absV : Value → Option V
  | .none => some .non
  | .bool b => some (.bl b)
  | .int i _ => some (.int i)
  | .str x _ => some (.str x)
  | .bytes b _ => some (.byt b)
  | .float b _ => some (.flt b)
  | .ref a => some (.ref a)
  | .type n => some (.ty n)
  | _ => none
theorem RelV.abs {x : V} {u : Value} (r : RelV x u) : absV u = some x := by
  cases x with
  | non => cases r; rfl
  | bl _ => cases r; rfl
  | int _ => obtain ⟨t, rfl⟩ := r; rfl
  | str _ => obtain ⟨t, rfl⟩ := r; rfl
  | byt _ => obtain ⟨t, rfl⟩ := r; rfl
  | flt _ => obtain ⟨t, rfl⟩ := r; rfl
  | ref _ => cases r; rfl
  | ty _ => cases r; rfl
theorem RelV.inj {x y : V} {u : Value} (r : RelV x u) (q : RelV y u) : x = y := Option.some.inj (r.abs.symm.trans q.abs)
theorem Vals.inj : ∀ {xs ys : List V} {us : List Value}, Vals xs us → Vals ys us → xs = ys
  | _, _, _, .nil, .nil => rfl
  | _, _, _, .cons r t, .cons r' t' => by rw [r.inj r', Vals.inj t t']
section
variable {X : Cx} {pins : List (Addr × Obj)} {σ : St} {H : Hp} {s : Shared} {a : Addr} {xs ys : List V}
theorem SqL.of {K : PySem.W.Frag} (h : H a = some (.lst xs)) : SqL K H a xs := .inl (.inl h)
theorem SqT.of {K : PySem.W.Frag} (h : H a = some (.tup xs)) : SqT K H a xs := .inl (.inl h)
theorem Inv.list (I : Inv X pins σ H s) (h : SqL X.K H a xs) : ∃ its : List Value, Vals xs its ∧ PlainL s.heap a its.toArray ∧ xs.length ≤ sizeLine := by
  rcases h with h | ⟨o, its, n, hk, hc, hd, hs, hz, r⟩
  · obtain ⟨z, its, n, r, e⟩ := h.ok I.hok
    exact ⟨its, r, ⟨_, n, e, rfl, rfl, rfl⟩, z⟩
  · refine ⟨its.toList, r, ⟨o, n, I.kIn a o hk, hc, hd, by simpa using hs⟩, ?_⟩
    have e := r.length
    simp only [Array.length_toList] at e
    omega
theorem Inv.tuple (I : Inv X pins σ H s) (h : SqT X.K H a xs) : ∃ its : List Value, Vals xs its ∧ IsTup s.heap a its.toArray ∧ xs.length ≤ sizeLine := by
  rcases h with h | ⟨o, its, n, hk, hc, hs, hz, r⟩
  · obtain ⟨z, its, r, p⟩ := h.ok I.hok
    exact ⟨its, r, p, z⟩
  · refine ⟨its.toList, r, ⟨o, I.kIn a o hk, hc, n, by simpa using hs⟩, ?_⟩
    have e := r.length
    simp only [Array.length_toList] at e
    omega
theorem Inv.list_inj (I : Inv X pins σ H s) (h : SqL X.K H a xs) (h' : SqL X.K H a ys) : xs = ys := by
  obtain ⟨its, r, ⟨o, n, e, _, _, d⟩, _⟩ := I.list h
  obtain ⟨its', r', ⟨o', n', e', _, _, d'⟩, _⟩ := I.list h'
  rw [e] at e'; cases e'
  rw [d] at d'
  injection d' with d1 _
  have : its = its' := by simpa using congrArg Array.toList d1
  subst this
  exact r.inj r'
theorem Inv.tuple_inj (I : Inv X pins σ H s) (h : SqT X.K H a xs) (h' : SqT X.K H a ys) : xs = ys := by
  obtain ⟨its, r, ⟨o, e, _, n, d⟩, _⟩ := I.tuple h
  obtain ⟨its', r', ⟨o', e', _, n', d'⟩, _⟩ := I.tuple h'
  rw [e] at e'; cases e'
  rw [d] at d'
  injection d' with d1 _
  have : its = its' := by simpa using congrArg Array.toList d1
  subst this
  exact r.inj r'
end
noncomputable abbrev Cx.wish (X : Cx) (E : Value → Shared → Prop) : Cx := { X with xe := E }
noncomputable abbrev Cx.nox (X : Cx) : Cx := X.wish fun _ _ => False
theorem Cx.Ok.wish {X : Cx} (ok : X.Ok) (E : Value → Shared → Prop) : (X.wish E).Ok :=
  ⟨ok.mod, ok.kind, ok.glob, ok.blt, ok.above, ok.inj, ok.has, ok.cab, ok.hd, ok.frames, ok.stk, ok.exf, ok.bs, ok.bsz, ok.noex, ok.exfs, ok.funs, ok.frf⟩
theorem Cx.Ok.unwish {X : Cx} {E : Value → Shared → Prop} (ok : (X.wish E).Ok) : X.Ok :=
  ⟨ok.mod, ok.kind, ok.glob, ok.blt, ok.above, ok.inj, ok.has, ok.cab, ok.hd, ok.frames, ok.stk, ok.exf, ok.bs, ok.bsz, ok.noex, ok.exfs, ok.funs, ok.frf⟩
section
variable {X : Cx} {pins : List (Addr × Obj)} {σ : St} {H : Hp} {s : Shared} {E : Value → Shared → Prop}
theorem Inv.wish (I : Inv X pins σ H s) (E : Value → Shared → Prop) : Inv (X.wish E) pins σ H s := ⟨I.ok.wish E, I.os, I.bare, I.base, I.loc, I.cell, I.free, I.freeC, I.pin, I.hok, I.len⟩
theorem Inv.unwish (I : Inv (X.wish E) pins σ H s) : Inv X pins σ H s := ⟨I.ok.unwish, I.os, I.bare, I.base, I.loc, I.cell, I.free, I.freeC, I.pin, I.hok, I.len⟩
theorem SP.unwish {D : Ends} {f : Flow} {s' : Shared} (h : SP (X.wish E) pins D f s') : SP X pins D f s' := by
  cases f with
  | next => obtain ⟨σ', H', I, q⟩ := h; exact ⟨σ', H', I.unwish, q⟩
  | brk => obtain ⟨σ', H', I, q⟩ := h; exact ⟨σ', H', I.unwish, q⟩
  | cont => obtain ⟨σ', H', I, q⟩ := h; exact ⟨σ', H', I.unwish, q⟩
  | ret u => obtain ⟨v, σ', H', I, r, q⟩ := h; exact ⟨v, σ', H', I.unwish, r, q⟩
theorem PSs.nox {st : List Stmt} {t : TS} (h : PSs X.nox st t) : PSs X st t := fun pins s σ H D I hw =>
  wpAny_mono (h pins s σ H D (I.wish _) hw) (fun _ _ q => q.unwish) fun _ _ z => False.elim z
end
section
variable {X : Cx} {st : Stmt} {rest : List Stmt} {t u : TS} {e : Expr} {te : TE} {pos : Pos}
noncomputable def tNext : TS := fun D σ H => D.nx σ H
noncomputable def tSeq (t u : TS) : TS := fun D σ H => t { D with nx := u D } σ H
theorem pss_nil : PSs X [] tNext := fun _ _ σ H _ I h => wpAny_execs_nil ⟨σ, H, I, h⟩
theorem pss_cons (h1 : PS X st t) (h2 : PSs X rest u) : PSs X (st :: rest) (tSeq t u) := by
  intro pins s σ H D I h
  refine wpAny_execs_cons (thn (h1 pins s σ H { D with nx := u D } I h) fun f s1 q => ?_)
  cases f with
  | next =>
    obtain ⟨σ', H', I', q⟩ := q
    exact h2 pins s1 σ' H' D I' q
  | ret v => exact q
  | brk => exact q
  | cont => exact q
theorem pss_one (h1 : PS X st t) : PSs X [st] t := by
  intro pins s σ H D I h
  refine wpAny_execs_cons (thn (h1 pins s σ H D I h) fun f s1 q => ?_)
  cases f with
  | next => exact wpAny_execs_nil q
  | ret v => exact q
  | brk => exact q
  | cont => exact q
theorem Inv.quiet {pins : List (Addr × Obj)} {σ : St} {H : Hp} {s : Shared} (I : Inv X pins σ H s) : interactive X.env = false := by simp [interactive, I.ok.kind]
noncomputable def tDrop (te : TE) : TS := fun D σ H => te σ H fun _ H1 => D.nx σ H1
theorem ps_expr (he : PE X e te) (hs : swapsWith e none pos.line X.env = pure false := by rfl) : PS X (.Expr e pos) (tDrop te) := by
  intro pins s σ H D I h
  exact wpAny_Expr_any (thn (he pins s σ H _ I h) fun v s1 ⟨x, H1, I1, r1, q1⟩ => ⟨σ, H1, I1, q1⟩) I.quiet hs
noncomputable def tRet (te : TE) : TS := fun D σ H => te σ H D.rt
theorem ps_ret (he : PE X e te) : PS X (.Return (some e) pos) (tRet te) := by
  intro pins s σ H D I h
  exact wpAny_Return_some (thn (he pins s σ H _ I h) fun v s1 ⟨x, H1, I1, r1, q1⟩ => ⟨x, σ, H1, I1, r1, q1⟩)
noncomputable def tRetN : TS := fun D _ H => D.rt .non H
theorem ps_retN : PS X (.Return none pos) tRetN := fun _ _ σ H _ I h => wpAny_Return_none ⟨.non, σ, H, I, rfl, h⟩
noncomputable def tIfS (c : TT) (t u : TS) : TS := fun D σ H => c σ H fun b H1 => if b = true then t D σ H1 else u D σ H1
theorem ps_if {c : Expr} {a b : List Stmt} {tc : TT} (hc : PT X c tc) (ha : PSs X a t) (hb : PSs X b u) : PS X (.If c a b pos) (tIfS tc t u) := by
  intro pins s σ H D I h
  refine wpAny_If (thn (hc pins s σ H _ I h) fun d s1 ⟨H1, I1, q1⟩ => ?_)
  cases d with
  | true => exact ha pins s1 σ H1 D I1 q1
  | false => exact hb pins s1 σ H1 D I1 q1
end
noncomputable abbrev TG := V → St → Hp → (St → Hp → Prop) → Prop
noncomputable abbrev TGs := List V → St → Hp → (St → Hp → Prop) → Prop
noncomputable def PG (X : Cx) (target : Expr) (t : TG) : Prop :=
  ∀ (pins : List (Addr × Obj)) (s : Shared) (σ : St) (H : Hp) (v : V) (u : Value) (Q : St → Hp → Prop), Inv X pins σ H s → RelV v u → t v σ H Q →
    wpAny (model X.prog X.w) X.A (assign target X.env u) (fun _ s' => ∃ σ' H', Inv X pins σ' H' s' ∧ Q σ' H') X.xe s
noncomputable def PGs (X : Cx) (ts : List Expr) (t : TGs) : Prop :=
  ∀ (pins : List (Addr × Obj)) (s : Shared) (σ : St) (H : Hp) (vs : List V) (us : List Value) (Q : St → Hp → Prop), Inv X pins σ H s → Vals vs us → t vs σ H Q →
    wpAny (model X.prog X.w) X.A (assignInOrder ((assignEach ts X.env).map (·.2)) us) (fun _ s' => ∃ σ' H', Inv X pins σ' H' s' ∧ Q σ' H') X.xe s
noncomputable abbrev TSet := V → V → V → Hp → (Hp → Prop) → Prop
noncomputable abbrev TIp := V → V → Hp → VK → Prop
noncomputable def PIp (X : Cx) (op : Operator) (t : TIp) : Prop :=
  ∀ (pins : List (Addr × Obj)) (s : Shared) (σ : St) (H : Hp) (x y : V) (v u : Value) (Q : VK), Inv X pins σ H s → RelV x v → RelV y u → t x y H Q →
    wpAny (model X.prog X.w) X.A (inplaceOp op v u) (EP X pins σ Q) X.xe s
section
variable {X : Cx} {pos : Pos}
noncomputable def gName (i : Nat) : TG := fun v σ H Q => Q (σ.set i (some v)) H
theorem pg_name {i : Nat} {x : Str} (hN : X.N.Nodup) (hi : X.N[i]? = some x) (hx : Loc X.env.scope x) (hf : X.fn x = true ∨ X.env.scope.names.lookup x = some .local := by first | exact .inl rfl | exact .inr rfl | assumption) : PG X (.Name x pos) (gName i) := by
  intro pins s σ H v u Q I r h
  exact wpAny_assign_Name (store_ok I hN hi hx r (fun s' I' => ⟨_, H, I', h⟩) hf)
noncomputable def gNil : TGs := fun vs σ H Q => vs = [] ∧ Q σ H
noncomputable def gCons (t : TG) (u : TGs) : TGs := fun vs σ H Q => ∃ v r, vs = v :: r ∧ t v σ H fun σ' H' => u r σ' H' Q
theorem pgs_nil : PGs X [] gNil := by
  intro pins s σ H vs us Q I r h
  obtain ⟨e, h⟩ := h
  subst e
  cases r
  exact assignInOrder_nil ⟨σ, H, I, h⟩
theorem pgs_cons {e : Expr} {es : List Expr} {t : TG} {u : TGs} (h1 : PG X e t) (h2 : PGs X es u)
    (hs : (assignEach (e :: es) X.env).map (·.2) = assign e X.env :: (assignEach es X.env).map (·.2) := by rfl) : PGs X (e :: es) (gCons t u) := by
  intro pins s σ H vs us Q I r h
  obtain ⟨v, vr, e1, h⟩ := h
  subst e1
  cases r with
  | cons r rr =>
    rw [hs]
    refine assignInOrder_cons (thn (h1 pins s σ H _ _ _ I r h) fun _ s1 ⟨σ1, H1, I1, q1⟩ => ?_)
    exact h2 pins s1 σ1 H1 _ _ Q I1 rr q1
noncomputable def gTup (K : PySem.W.Frag) (n : Nat) (t : TGs) : TG := fun v σ H Q => ∃ a xs, v = .ref a ∧ SqT K H a xs ∧ xs.length = n ∧ t xs σ H Q
theorem pg_tup {es : List Expr} {k : Nat} {t : TGs} {n : Nat} (hc : X.calm = true) (h : PGs X es t)
    (hn : (assignEach es X.env).length = n := by rfl) (hst : (assignEach es X.env).findIdx? (·.1) = none := by rfl) : PG X (.Tuple es k pos) (gTup X.K n t) := by
  intro pins s σ H v u Q I r hw
  obtain ⟨a, xs, e1, hq, hl, hw⟩ := hw
  subst e1
  cases r
  obtain ⟨its, rv, ht, hz⟩ := I.tuple hq
  refine assign_Tuple_tuple (I.ok.hd hc) ht (by simp [hn, ← hl, rv.length]) hst fun h' hx => ?_
  have I1 : Inv X pins σ H { s with heap := h' } := I.kept (t' := s.toks) fun b o e => hx b o (Nat.ne_of_lt (Heap.lt_size e)) e
  exact h pins _ σ H xs _ Q I1 (by simpa using rv) hw
noncomputable def tAsg (te : TE) (g : TG) : TS := fun D σ H => te σ H fun x H1 => g x σ H1 D.nx
theorem ps_set {i : Nat} {x : Str} {e : Expr} {te : TE} {pos' : Pos} (hN : X.N.Nodup) (hi : X.N[i]? = some x) (hx : Loc X.env.scope x) (he : PE X e te) (hs : swapsWith e (some (.Name x pos')) pos.line X.env = pure false := by rfl) (hf : X.fn x = true ∨ X.env.scope.names.lookup x = some .local := by first | exact .inl rfl | exact .inr rfl | assumption) :
    PS X (.Assign [.Name x pos'] e pos) (tAsg te (gName i)) := by
  intro pins s σ H D I h
  refine wpAny_Assign_Name (thn (he pins s σ H _ I h) fun v s1 ⟨y, H1, I1, r1, q1⟩ => ?_) hs
  exact store_ok I1 hN hi hx r1 (fun s2 I2 => ⟨_, H1, I2, q1⟩) hf
noncomputable def tAug (i : Nat) (te : TE) (ti : TIp) : TS := fun D σ H => ∃ x, σ[i]? = some (some x) ∧ te σ H fun y H1 => ti x y H1 fun z H2 => D.nx (σ.set i (some z)) H2
theorem ps_aug {i : Nat} {x : Str} {e : Expr} {te : TE} {op : Operator} {ti : TIp} {pos' : Pos} (hN : X.N.Nodup) (hi : X.N[i]? = some x) (hx : Loc X.env.scope x) (he : PE X e te) (ho : PIp X op ti) (hf : X.fn x = true ∨ X.env.scope.names.lookup x = some .local := by first | exact .inl rfl | exact .inr rfl | assumption) :
    PS X (.AugAssign (.Name x pos') op e pos) (tAug i te ti) := by
  intro pins s σ H D I h
  obtain ⟨v, e1, h⟩ := h
  obtain ⟨m, hn, hl⟩ := I.loc
  have vis : Vis X.env.scope x := by rcases hx with k | k; exact .inl k; exact .inr (.inl k)
  obtain ⟨u, r, l⟩ := hl i x v hi e1 vis
  refine wpAny_AugAssign_Name ?_
  have go : wpAny (model X.prog X.w) X.A (eval e X.env) (fun w s₂ => wpAny (model X.prog X.w) X.A (inplaceOp op u w) (fun r s₃ => wpAny (model X.prog X.w) X.A (storeName X.env x r) (fun _ => SP X pins D .next) X.xe s₃) X.xe s₂) X.xe s := by
    refine thn (he pins s σ H _ I h) fun w s1 ⟨y, H1, I1, r1, q1⟩ => ?_
    refine thn (ho pins s1 σ H1 v y u w _ I1 r r1 q1) fun z s2 ⟨zv, H2, I2, r2, q2⟩ => ?_
    exact store_ok I2 hN hi hx r2 (fun s3 I3 => ⟨_, H2, I3, q2⟩) hf
  rcases l with ⟨hk, hm⟩ | ⟨hk, c, hc, hcell⟩
  · exact wpAny_loadName_local I.ok.kind hk hn hm go
  · rcases hk with hk | hk
    · exact wpAny_loadName_cell I.ok.kind hk hc hcell go
    · rcases hx with k | k
      · have : X.env.scope.names.lookup x = some .free := hk
        rw [k] at this; cases this
      · have : X.env.scope.names.lookup x = some .free := hk
        rw [k] at this; cases this
noncomputable def ipI (f : Int → Int → Int) : TIp := fun x y H Q => ∃ i j, x = .int i ∧ y = .int j ∧ Q (.int (f i j)) H
theorem ip_add : PIp X .Add (ipI fun i j => i + j) := by
  intro pins s σ H x y v u Q I r1 r2 h
  obtain ⟨i, j, e1, e2, q⟩ := h
  subst e1; subst e2
  obtain ⟨t, rfl⟩ := r1
  obtain ⟨t', rfl⟩ := r2
  exact iadd_int ⟨.int _, H, I.tok _, ⟨_, rfl⟩, q⟩
end
section
variable {X : Cx} {pos : Pos}
noncomputable def tWhile (c : TT) (tb : TS) : TS := fun D σ H => ∃ W : Nat → St → Hp → Prop, (∃ m, W m σ H) ∧ ∀ m σ H, W m σ H →
  c σ H fun b H1 => if b = true then ∃ N : St → Hp → Prop, (∀ σ' H', N σ' H' → ∃ m', m' < m ∧ W m' σ' H') ∧ tb { D with nx := N, ct := N, bk := D.nx } σ H1 else D.nx σ H1
theorem ps_while {c : Expr} {body : List Stmt} {tc : TT} {tb : TS} (hp : PassesOwn (model X.prog X.w) X.A X.env X.xe) (hc : PT X c tc) (hb : PSs X body tb) : PS X (.While c body [] pos) (tWhile tc tb) := by
  intro pins s σ H D I h
  obtain ⟨W, ⟨m0, w0⟩, turn⟩ := h
  refine wpAny_While (codeAny_whileLoop (fun n s' => ∃ σ' H', Inv X pins σ' H' s' ∧ W n σ' H') ?_ m0 ⟨σ, H, I, w0⟩)
  rintro n s1 ⟨σ1, H1, I1, w1⟩
  refine wpAny_passesOwn hp (thn (hc pins s1 σ1 H1 _ I1 (turn n σ1 H1 w1)) fun b s2 ⟨H2, I2, q2⟩ => ?_)
  cases b with
  | true =>
    obtain ⟨N, hN, q2⟩ := q2
    rw [if_pos rfl]
    refine wpAny_passesOwn hp (thn (hb pins s2 σ1 H2 _ I2 q2) fun f s3 q3 => ?_)
    cases f with
    | next =>
      obtain ⟨σ3, H3, I3, n3⟩ := q3
      obtain ⟨m', hm, w3⟩ := hN σ3 H3 n3
      exact ⟨m', hm, σ3, H3, I3, w3⟩
    | cont =>
      obtain ⟨σ3, H3, I3, n3⟩ := q3
      obtain ⟨m', hm, w3⟩ := hN σ3 H3 n3
      exact ⟨m', hm, σ3, H3, I3, w3⟩
    | brk => exact q3
    | ret v => exact q3
  | false =>
    rw [if_neg Bool.false_ne_true]
    exact wpAny_execs_nil ⟨σ1, H2, I2, q2⟩
end
structure It where
  go : Nat → Hp → Prop
  yld : Nat → Hp → V → Hp → Prop
  stop : Nat → Hp → Prop
noncomputable def FpOk (X : Cx) (pins : List (Addr × Obj)) (H : Hp) (b : Addr) : Prop :=
  H b = none ∧ b ≠ X.env.locals ∧ b ∉ X.fs ∧ (b ∈ X.ex ∨ X.s₀.heap.objs.size ≤ b) ∧ (∀ x c, X.env.cells.lookup x = some c → c ≠ b) ∧ ∀ p ∈ X.pn ++ pins, p.1 ≠ b
theorem Inv.fpOk {X : Cx} {pins : List (Addr × Obj)} {σ : St} {H H' : Hp} {s : Shared} {b : Addr} (I : Inv X pins σ H s) (hb : s.heap.objs.size ≤ b) (hn : H' b = none) : FpOk X pins H' b := by
  refine ⟨hn, Nat.ne_of_gt (Nat.lt_of_lt_of_le I.lt hb), I.nofs hb, .inr (Nat.le_trans I.sz hb), fun x c e z => ?_, fun p hp z => ?_⟩
  · obtain ⟨v, q⟩ := I.cell x c e
    exact absurd (Nat.lt_of_lt_of_le q.lt (by rw [z]; exact hb)) (Nat.lt_irrefl _)
  · exact absurd (Nat.lt_of_lt_of_le (Heap.lt_size (I.pin p hp).1) (by rw [z]; exact hb)) (Nat.lt_irrefl _)
structure Turn (P : Program) (w : World) (K : PySem.W.Frag) (tg : Expr) (J : It) (fp : List Addr) (it : Addr) (tn : Nat → Heap → Prop) : Prop where
  mem : it ∈ fp
  obj : ∀ i h, tn i h → ∀ b ∈ fp, ∃ o, h.get? b = some o ∧ ∀ v, o.data ≠ .cell v
  keep : ∀ i h h', tn i h → (∀ b ∈ fp, ∀ o, h.get? b = some o → h'.get? b = some o) → tn i h'
  item : ∀ (X : Cx), X.prog = P → X.w = w → X.K = K → X.calm = true → ∀ (i : Nat) (pins : List (Addr × Obj)) (s : Shared) (σ : St) (H : Hp) (E : Value → Shared → Prop), Inv X pins σ H s → (∀ b ∈ fp, FpOk X pins H b) → tn i s.heap → J.go i H →
    wpAny (model P w) X.A (pyNext (.ref it)) (fun r s1 => ∃ u, r = some u ∧
      wpAny (model P w) X.A (letOwnedTupleGo tg (.ref it) u) (fun _ s2 => ∃ x H', Inv X pins σ H' s2 ∧ RelV x u ∧ J.yld i H x H' ∧ tn (i + 1) s2.heap ∧ ∀ b ∈ fp, H' b = none) E s1) E s
  done : ∀ (X : Cx), X.prog = P → X.w = w → X.K = K → X.calm = true → ∀ (i : Nat) (pins : List (Addr × Obj)) (s : Shared) (σ : St) (H : Hp) (E : Value → Shared → Prop), Inv X pins σ H s → (∀ b ∈ fp, FpOk X pins H b) → tn i s.heap → J.stop i H →
    wpAny (model P w) X.A (pyNext (.ref it)) (fun r s1 => r = none ∧ Inv X pins σ H s1) E s
  self : ∀ (A : Around) (i : Nat) (s : Shared) (Q : Value → Shared → Prop) (E : Value → Shared → Prop), tn i s.heap → Q (.ref it) s → wpAny (model P w) A (pyIter (.ref it)) Q E s
noncomputable abbrev TI := St → Hp → (It → Hp → Prop) → Prop
noncomputable def PIE (X : Cx) (pins : List (Addr × Obj)) (σ : St) (tg : Expr) (R : It → Hp → Prop) (itv : Value) (s2 : Shared) : Prop :=
  ∃ (it : Addr) (fp : List Addr) (tn : Nat → Heap → Prop) (J : It) (H' : Hp), itv = .ref it ∧ Inv X pins σ H' s2 ∧ Turn X.prog X.w X.K tg J fp it tn ∧ tn 0 s2.heap ∧ (∀ b ∈ fp, FpOk X pins H' b) ∧ R J H'
noncomputable def PI (X : Cx) (tg iter : Expr) (wi : TI) : Prop :=
  ∀ (pins : List (Addr × Obj)) (s : Shared) (σ : St) (H : Hp) (R : It → Hp → Prop), Inv X pins σ H s → wi σ H R →
    wpAny (model X.prog X.w) X.A (eval iter X.env) (fun v s1 => wpAny (model X.prog X.w) X.A (pyIter v) (PIE X pins σ tg R) X.xe s1) X.xe s
theorem go_of {M : Model} {A : Around} {E : Value → Shared → Prop} {s : Shared} {tg : Expr} {it : Addr} {u : Value} {o : Obj} {n : String} {vs : Array Value} {Q : Unit → Shared → Prop} (ho : s.heap.get? it = some o) (hc : o.cls = .type n) (hd : o.data = .fields vs)
    (hn : ["enumerate", "zip", "dict_itemiterator", "dict_reverseitemiterator", "odict_iterator", "itertools.zip_longest", "itertools.pairwise"].contains n = false) (hQ : Q () s) : wpAny M A (letOwnedTupleGo tg (.ref it) u) Q E s := by
  unfold letOwnedTupleGo
  cases tg <;> first
    | exact wpAny_pure hQ
    | (cases u <;> first
        | exact wpAny_pure hQ
        | (refine wpAny_bind (wpAny_load ho ?_)
           rw [hc, hd]
           show wpAny M A (if (["enumerate", "zip", "dict_itemiterator", "dict_reverseitemiterator", "odict_iterator", "itertools.zip_longest", "itertools.pairwise"].contains n && vs[0]? == some (rawInt _)) = true then _ else _) Q E s
           rw [if_neg (by intro h; rw [hn, Bool.false_and] at h; cases h)]
           exact wpAny_pure hQ))
noncomputable def Itl (K : PySem.W.Frag) (a : Addr) : It :=
  ⟨fun i H => ∃ xs x, SqL K H a xs ∧ xs[i]? = some x, fun i H x H' => H' = H ∧ ∀ xs, SqL K H a xs → xs[i]? = some x, fun i H => ∃ xs, SqL K H a xs ∧ xs.length ≤ i⟩
noncomputable def Itt (K : PySem.W.Frag) (a : Addr) : It :=
  ⟨fun i H => ∃ xs x, SqT K H a xs ∧ xs[i]? = some x, fun i H x H' => H' = H ∧ ∀ xs, SqT K H a xs → xs[i]? = some x, fun i H => ∃ xs, SqT K H a xs ∧ xs.length ≤ i⟩
noncomputable def Itr (lo : Int) (n : Nat) : It := ⟨fun i _ => i < n, fun i H x H' => H' = H ∧ x = .int (lo + i), fun i _ => n ≤ i⟩
theorem turn_list {P : Program} {w : World} {K : PySem.W.Frag} {tg : Expr} (a it : Addr) : Turn P w K tg (Itl K a) [it] it (fun i h => h.IsListIter it a i) where
  mem := by simp
  obj := fun i h st b hb => by
    have e : b = it := by simpa using hb
    subst e
    obtain ⟨o, e, c, d⟩ := st
    exact ⟨o, e, fun v z => by rw [d] at z; cases z⟩
  keep := fun i h h' st k => st.at fun o e => k it (by simp) o e
  item := by
    intro X hP hw hK hc i pins s σ H E I hf st hg
    subst hP hw hK
    obtain ⟨xs, x, hq, hx⟩ := hg
    obtain ⟨its, rv, p, hz⟩ := I.list hq
    obtain ⟨u, hu, ru⟩ := rv.get hx
    obtain ⟨f0, f1, f2, f3, f4, f5⟩ := hf it (by simp)
    refine wpAny_pyNext_list_item st p.isList (x := u) (by simpa using hu) fun h' st' sb => ?_
    have I1 : Inv X pins σ H { s with heap := h' } := I.turned (t' := s.toks) (fun b o hb e => (sb.2 b hb).trans e) f0 f1 f3 f4 f5
    obtain ⟨o, e, c, d⟩ := id st'
    exact ⟨u, rfl, go_of (s := { s with heap := h' }) e c d (by decide) ⟨x, H, I1, ru, ⟨rfl, fun ys hy => by rw [I.list_inj hy hq]; exact hx⟩, st', fun b hb => (hf b hb).1⟩⟩
  done := by
    intro X hP hw hK hc i pins s σ H E I hf st hg
    subst hP hw hK
    obtain ⟨xs, hq, hx⟩ := hg
    obtain ⟨its, rv, p, hz⟩ := I.list hq
    obtain ⟨f0, f1, f2, f3, f4, f5⟩ := hf it (by simp)
    have hl := rv.length
    exact wpAny_pyNext_list_end (I.ok.hd hc) st p.isList (by simp; omega) fun h' eb => ⟨rfl, I.turned (t' := s.toks) (fun b o hb e => eb b o hb e) f0 f1 f3 f4 f5⟩
  self := fun _ _ _ _ _ st h => wpAny_pyIter_listiter st h
theorem turn_tuple {P : Program} {w : World} {K : PySem.W.Frag} {tg : Expr} (a it : Addr) : Turn P w K tg (Itt K a) [it] it (fun i h => h.IsTupleIter it a i) where
  mem := by simp
  obj := fun i h st b hb => by
    have e : b = it := by simpa using hb
    subst e
    obtain ⟨o, e, c, d⟩ := st
    exact ⟨o, e, fun v z => by rw [d] at z; cases z⟩
  keep := fun i h h' st k => st.at fun o e => k it (by simp) o e
  item := by
    intro X hP hw hK hc i pins s σ H E I hf st hg
    subst hP hw hK
    obtain ⟨xs, x, hq, hx⟩ := hg
    obtain ⟨its, rv, p, hz⟩ := I.tuple hq
    obtain ⟨u, hu, ru⟩ := rv.get hx
    obtain ⟨f0, f1, f2, f3, f4, f5⟩ := hf it (by simp)
    refine wpAny_pyNext_tuple_item st (show s.heap.IsTuple a its.toArray from p) (x := u) (by simpa using hu) fun h' st' sb => ?_
    have I1 : Inv X pins σ H { s with heap := h' } := I.turned (t' := s.toks) (fun b o hb e => (sb.2 b hb).trans e) f0 f1 f3 f4 f5
    obtain ⟨o, e, c, d⟩ := id st'
    exact ⟨u, rfl, go_of (s := { s with heap := h' }) e c d (by decide) ⟨x, H, I1, ru, ⟨rfl, fun ys hy => by rw [I.tuple_inj hy hq]; exact hx⟩, st', fun b hb => (hf b hb).1⟩⟩
  done := by
    intro X hP hw hK hc i pins s σ H E I hf st hg
    subst hP hw hK
    obtain ⟨xs, hq, hx⟩ := hg
    obtain ⟨its, rv, p, hz⟩ := I.tuple hq
    obtain ⟨f0, f1, f2, f3, f4, f5⟩ := hf it (by simp)
    have hl := rv.length
    exact wpAny_pyNext_tuple_end (I.ok.hd hc) st (show s.heap.IsTuple a its.toArray from p) (by simp; omega) fun h' eb => ⟨rfl, I.turned (t' := s.toks) (fun b o hb e => eb b o hb e) f0 f1 f3 f4 f5⟩
  self := fun _ _ _ _ _ st h => wpAny_pyIter_tupleiter st h
theorem turn_range {P : Program} {w : World} {K : PySem.W.Frag} {tg : Expr} (it : Addr) (lo : Int) (n : Nat) : Turn P w K tg (Itr lo n) [it] it (fun i h => IsRangeIter h it (lo + (i : Nat) * 1) ((n : Int) - (i : Nat)) 1) where
  mem := by simp
  obj := fun i h st b hb => by
    have e : b = it := by simpa using hb
    subst e
    exact ⟨_, st, fun v z => by
      have z' : Data.fields _ = Data.cell v := z
      cases z'⟩
  keep := fun i h h' st k => k it (by simp) _ st
  item := by
    intro X hP hw hK hc i pins s σ H E I hf st hg
    subst hP hw hK
    obtain ⟨f0, f1, f2, f3, f4, f5⟩ := hf it (by simp)
    have W := Walks.range (prog := X.prog) (w := X.w) (I.ok.hd hc) it lo 1 n
    refine W.item i s _ _ hg st fun v h' tk hv st' kk => ?_
    obtain ⟨t, rfl⟩ := hv
    have I1 : Inv X pins σ H { s with heap := h', toks := tk } := I.turned (fun b o hb e => kk b o (by simpa using hb) e) f0 f1 f3 f4 f5
    refine ⟨_, rfl, go_of (s := { s with heap := h', toks := tk }) (n := "range_iterator") st' rfl rfl (by decide) ⟨.int (lo + i), H, I1, ⟨t, ?_⟩, ⟨rfl, rfl⟩, st', fun b hb => (hf b hb).1⟩⟩
    rw [Int.mul_one]
  done := by
    intro X hP hw hK hc i pins s σ H E I hf st hg
    subst hP hw hK
    obtain ⟨f0, f1, f2, f3, f4, f5⟩ := hf it (by simp)
    exact wpAny_pyNext_range_end (I.ok.hd hc) st (by have : n ≤ i := hg; omega) fun h' eb => ⟨rfl, I.turned (t' := s.toks) (fun b o hb e => eb b o hb e) f0 f1 f3 f4 f5⟩
  self := fun _ _ _ _ _ st h => wpAny_pyIter_rangeiter st h
end L2
namespace L2
open PySem PySem.Spec PyProof.Rows
section
variable {X : Cx} {tg : Expr}
noncomputable def iList (K : PySem.W.Frag) (tl : TE) : TI := fun σ H R => tl σ H fun x H1 => ∃ a, x = .ref a ∧ (∃ xs, SqL K H1 a xs) ∧ R (Itl K a) H1
noncomputable def iTup (K : PySem.W.Frag) (tl : TE) : TI := fun σ H R => tl σ H fun x H1 => ∃ a, x = .ref a ∧ (∃ xs, SqT K H1 a xs) ∧ R (Itt K a) H1
theorem pi_list {l : Expr} {tl : TE} (hl : PE X l tl) : PI X tg l (iList X.K tl) := by
  intro pins s σ H R I h
  refine thn (hl pins s σ H _ I h) fun v s1 ⟨x, H1, I1, r1, q1⟩ => ?_
  obtain ⟨a, e, ⟨xs, hq⟩, q⟩ := q1
  subst e
  cases r1
  obtain ⟨its, rv, p, hz⟩ := I1.list hq
  refine wpAny_pyIter_list p.isList ?_
  refine ⟨s1.heap.objs.size, [s1.heap.objs.size], _, _, H1, rfl, I1.kept (t' := s1.toks) fun b o e => Heap.get?_push_of_some _ e, turn_list a _, ⟨_, Heap.get?_push_size _ rfl, rfl, rfl⟩, fun b hb => ?_, q⟩
  have e : b = s1.heap.objs.size := by simpa using hb
  subst e
  exact I1.fpOk (Nat.le_refl _) (I1.hok.fresh (Nat.le_refl _))
theorem pi_tup {l : Expr} {tl : TE} (hl : PE X l tl) : PI X tg l (iTup X.K tl) := by
  intro pins s σ H R I h
  refine thn (hl pins s σ H _ I h) fun v s1 ⟨x, H1, I1, r1, q1⟩ => ?_
  obtain ⟨a, e, ⟨xs, hq⟩, q⟩ := q1
  subst e
  cases r1
  obtain ⟨its, rv, p, hz⟩ := I1.tuple hq
  refine wpAny_pyIter_tuple (show s1.heap.IsTuple a its.toArray from p) ?_
  refine ⟨s1.heap.objs.size, [s1.heap.objs.size], _, _, H1, rfl, I1.kept (t' := s1.toks) fun b o e => Heap.get?_push_of_some _ e, turn_tuple a _, ⟨_, Heap.get?_push_size _ rfl, rfl, rfl⟩, fun b hb => ?_, q⟩
  have e : b = s1.heap.objs.size := by simpa using hb
  subst e
  exact I1.fpOk (Nat.le_refl _) (I1.hok.fresh (Nat.le_refl _))
theorem range_it {pins : List (Addr × Obj)} {σ : St} {H : Hp} {s : Shared} {R : It → Hp → Prop} {E : Value → Shared → Prop} {lo hi : Int} {t u v : Tok} {tk : Nat} (I : Inv X pins σ H s) (h1 : -(2 ^ 62) ≤ lo) (h2 : lo < 2 ^ 62) (h3 : -(2 ^ 62) ≤ hi) (h4 : hi < 2 ^ 62)
    (q : R (Itr lo (hi - lo).toNat) H) : wpAny (model X.prog X.w) X.A (pyIter (.ref s.heap.objs.size)) (PIE X pins σ tg R) E { s with heap := s.heap.push { cls := .type "range", data := .fields #[.int lo t, .int hi u, .int 1 v] }, toks := tk } := by
  refine wpAny_pyIter_range (IsRange.new ..) (small_one h1 h2 h3 h4) ?_
  have I1 : Inv X pins σ H { s with heap := s.heap.push { cls := .type "range", data := .fields #[.int lo t, .int hi u, .int 1 v] }, toks := tk } := I.kept fun b o e => Heap.get?_push_of_some _ e
  refine ⟨(s.heap.push { cls := .type "range", data := .fields #[.int lo t, .int hi u, .int 1 v] }).objs.size, [(s.heap.push { cls := .type "range", data := .fields #[.int lo t, .int hi u, .int 1 v] }).objs.size], _, _, H, rfl,
    I1.kept (t' := tk) fun b o e => Heap.get?_push_of_some _ e, turn_range _ lo (hi - lo).toNat, ?_, fun b hb => ?_, q⟩
  · have e1 : lo + ((0 : Nat) : Int) * 1 = lo := by simp
    have e2 : (((hi - lo).toNat : Nat) : Int) - ((0 : Nat) : Int) = Builtin.Range.rangeSize lo hi 1 := by rw [rangeSize_one]; split <;> omega
    show IsRangeIter _ _ (lo + ((0 : Nat) : Int) * 1) ((((hi - lo).toNat : Nat) : Int) - ((0 : Nat) : Int)) 1
    rw [e1, e2]
    exact Heap.get?_push_size _ rfl
  · have e : b = (s.heap.push { cls := .type "range", data := .fields #[.int lo t, .int hi u, .int 1 v] }).objs.size := by simpa using hb
    subst e
    exact I1.fpOk (Nat.le_refl _) (I1.hok.fresh (Nat.le_refl _))
noncomputable def iRng1 (ta : TA) : TI := fun σ H R => ta σ H fun vs H1 => ∃ j : Int, vs = [.int j] ∧ -(2 ^ 62) ≤ j ∧ j < 2 ^ 62 ∧ R (Itr 0 j.toNat) H1
theorem pi_range1 {a : Expr} {ta : TA} {p pos : Pos} (hg : Gl X "range") (hm : X.mg "range" = none) (ha : PA X [a] ta) (hs : starEach [a] X.env = [(false, eval a X.env)] := by rfl) : PI X tg (.Call (.Name "range" p) [a] [] pos) (iRng1 ta) := by
  intro pins s σ H R I h
  refine Call_ (ld_blt I hg hm boot_range (PyProof.Rows.callWith_type1 (thn (ha pos pins s σ H _ I h) fun us s1 ⟨vs, H1, I1, r1, q1⟩ => ?_) hs rfl))
  obtain ⟨j, e, q1, q2, q⟩ := q1
  subst e
  cases r1 with
  | cons r rr =>
    cases rr
    obtain ⟨t, rfl⟩ := r
    exact call_range_1 (range_it I1 (by omega) (by omega) q1 q2 (by simpa using q))
noncomputable def tFor (wi : TI) (g : TG) (tb : TS) : TS := fun D σ H => wi σ H fun J H1 => ∃ W : Nat → Nat → St → Hp → Prop, (∃ m, W 0 m σ H1) ∧ ∀ i m σ H, W i m σ H →
  (J.stop i H ∧ D.nx σ H) ∨ (J.go i H ∧ ∃ N : St → Hp → Prop, (∀ σ' H', N σ' H' → ∃ m', m' < m ∧ W (i + 1) m' σ' H') ∧ ∀ x H', J.yld i H x H' → g x σ H' fun σ2 H2 => tb { D with nx := N, ct := N, bk := D.nx } σ2 H2)
noncomputable def pinsAt (fp : List Addr) (h : Heap) : List (Addr × Obj) := fp.filterMap fun b => (h.get? b).map fun o => (b, o)
theorem mem_pinsAt {fp : List Addr} {h : Heap} {b : Addr} {o : Obj} (hb : b ∈ fp) (e : h.get? b = some o) : (b, o) ∈ pinsAt fp h := List.mem_filterMap.mpr ⟨b, hb, by rw [e]; rfl⟩
theorem of_pinsAt {fp : List Addr} {h : Heap} {p : Addr × Obj} (hp : p ∈ pinsAt fp h) : p.1 ∈ fp ∧ h.get? p.1 = some p.2 := by
  obtain ⟨b, hb, e⟩ := List.mem_filterMap.mp hp
  cases q : h.get? b with
  | none => rw [q] at e; cases e
  | some o =>
    rw [q] at e
    have e' : (b, o) = p := Option.some.inj e
    subst e'
    exact ⟨hb, q⟩
theorem Inv.pinned {pins : List (Addr × Obj)} {σ : St} {H : Hp} {s : Shared} {fp : List Addr} (I : Inv X pins σ H s) (hf : ∀ b ∈ fp, FpOk X pins H b) (ho : ∀ b ∈ fp, ∃ o, s.heap.get? b = some o ∧ ∀ v, o.data ≠ .cell v) : Inv X (pins ++ pinsAt fp s.heap) σ H s :=
  I.pins_of fun p hp => (List.mem_append.mp hp).elim (fun z => I.pin p (List.mem_append_right _ z)) fun z => by
    obtain ⟨hb, e⟩ := of_pinsAt z
    obtain ⟨f0, f1, f2, _⟩ := hf p.1 hb
    obtain ⟨o, e', d⟩ := ho p.1 hb
    rw [e] at e'; cases e'
    exact ⟨e, f0, f1, f2, d⟩
theorem Inv.unpinned {pins pl : List (Addr × Obj)} {σ : St} {H : Hp} {s : Shared} (I : Inv X (pins ++ pl) σ H s) : Inv X pins σ H s := I.pins_of fun p hp => I.pin p (List.mem_append_right _ (List.mem_append_left _ hp))
theorem ps_for {iter : Expr} {body : List Stmt} {wi : TI} {g : TG} {tb : TS} {pos : Pos} (hp : PassesOwn (model X.prog X.w) X.A X.env X.xe) (hc : X.calm = true) (hi : PI X tg iter wi) (hg : PG X tg g) (hb : PSs X body tb)
    (hs : ∀ x, foldedSetIterable iter X.env x = pure x := by intro _; rfl) : PS X (.For tg iter body [] pos) (tFor wi g tb) := by
  intro pins s σ H D I h
  refine wpAny_For (thn (hi pins s σ H _ I h) fun v s1 h1 => thn h1 fun itv s2 h2 => ?_) hs
  obtain ⟨it, fp, tn, J, H2, e, I2, T, st2, f2, W, ⟨m0, w0⟩, turn⟩ := h2
  subst e
  have stat : ∀ {H' : Hp}, (∀ b ∈ fp, H' b = none) → ∀ b ∈ fp, FpOk X pins H' b := fun hn b hb => ⟨hn b hb, (f2 b hb).2⟩
  refine codeAny_forLoop_any (fun n s' => ∃ i σ' H', Inv X pins σ' H' s' ∧ tn i s'.heap ∧ (∀ b ∈ fp, H' b = none) ∧ W i n σ' H') ?_ m0 ⟨0, σ, H2, I2, st2, fun b hb => (f2 b hb).1, w0⟩
  rintro n s3 ⟨i, σ3, H3, I3, st3, fr3, w3⟩
  rcases turn i n σ3 H3 w3 with ⟨stop, qn⟩ | ⟨go, N, hN, step⟩
  · refine wpAny_passesOwn hp (thn (T.done X rfl rfl rfl hc i pins s3 σ3 H3 X.xe I3 (stat fr3) st3 stop) fun r s4 ⟨hr, I4⟩ => ?_)
    subst hr
    exact wpAny_execs_nil ⟨σ3, H3, I4, qn⟩
  · refine wpAny_passesOwn hp (thn (T.item X rfl rfl rfl hc i pins s3 σ3 H3 X.xe I3 (stat fr3) st3 go) fun r s4 ⟨u, hr, h4⟩ => ?_)
    subst hr
    refine wpAny_passesOwn hp (thn h4 fun _ s5 ⟨x, H5, I5, r5, y5, st5, fr5⟩ => ?_)
    have I5' := I5.pinned (stat fr5) (T.obj _ _ st5)
    refine wpAny_passesOwn hp (thn (hg _ s5 σ3 H5 x u _ I5' r5 (step x H5 y5)) fun _ s6 ⟨σ6, H6, I6, q6⟩ => ?_)
    refine wpAny_passesOwn hp (thn (hb _ s6 σ6 H6 _ I6 q6) fun f s7 q7 => ?_)
    have again : ∀ {σ7 : St} {H7 : Hp}, Inv X (pins ++ pinsAt fp s5.heap) σ7 H7 s7 → N σ7 H7 → ∃ m, m < n ∧ ∃ i σ' H', Inv X pins σ' H' s7 ∧ tn i s7.heap ∧ (∀ b ∈ fp, H' b = none) ∧ W i m σ' H' := fun {σ7 H7} I7 n7 => by
      obtain ⟨m', hm, w7⟩ := hN σ7 H7 n7
      refine ⟨m', hm, i + 1, σ7, H7, I7.unpinned, T.keep _ _ _ st5 fun b hb o e => (I7.pin (b, o) (List.mem_append_right _ (List.mem_append_right _ (mem_pinsAt hb e)))).1, fun b hb => ?_, w7⟩
      obtain ⟨o, e, d⟩ := T.obj _ _ st5 b hb
      exact (I7.pin (b, o) (List.mem_append_right _ (List.mem_append_right _ (mem_pinsAt hb e)))).2.1
    cases f with
    | next => obtain ⟨σ7, H7, I7, n7⟩ := q7; exact again I7 n7
    | cont => obtain ⟨σ7, H7, I7, n7⟩ := q7; exact again I7 n7
    | brk => obtain ⟨σ7, H7, I7, q7⟩ := q7; exact ⟨σ7, H7, I7.unpinned, q7⟩
    | ret v => obtain ⟨x7, σ7, H7, I7, r7, q7⟩ := q7; exact ⟨x7, σ7, H7, I7.unpinned, r7, q7⟩
end
theorem for_list {K : PySem.W.Frag} {a : Addr} {xs : List V} {g : TG} {tb : TS} {D : Ends} {σ : St} {H : Hp} (Pv : Nat → St → Hp → Prop) (h0 : Pv 0 σ H) (hl : ∀ i σ H, i ≤ xs.length → Pv i σ H → SqL K H a xs)
    (hs : ∀ i x σ H, xs[i]? = some x → Pv i σ H → g x σ H fun σ2 H2 => tb { D with nx := Pv (i + 1), ct := Pv (i + 1), bk := D.nx } σ2 H2) (hd : ∀ σ H, Pv xs.length σ H → D.nx σ H) :
    ∃ W : Nat → Nat → St → Hp → Prop, (∃ m, W 0 m σ H) ∧ ∀ i m σ H, W i m σ H →
      ((Itl K a).stop i H ∧ D.nx σ H) ∨ ((Itl K a).go i H ∧ ∃ N : St → Hp → Prop, (∀ σ' H', N σ' H' → ∃ m', m' < m ∧ W (i + 1) m' σ' H') ∧ ∀ x H', (Itl K a).yld i H x H' → g x σ H' fun σ2 H2 => tb { D with nx := N, ct := N, bk := D.nx } σ2 H2) := by
  refine ⟨fun i m σ H => m = xs.length - i ∧ i ≤ xs.length ∧ Pv i σ H, ⟨xs.length, by simp, Nat.zero_le _, h0⟩, ?_⟩
  rintro i m σ H ⟨rfl, hi, p⟩
  have q := hl i σ H hi p
  by_cases hlt : i < xs.length
  · refine .inr ⟨⟨xs, xs[i], q, by simp [hlt]⟩, Pv (i + 1), fun σ' H' p' => ⟨xs.length - (i + 1), by omega, rfl, hlt, p'⟩, fun x H' y => ?_⟩
    obtain ⟨e, y⟩ := y
    subst e
    exact hs i x σ _ (y xs q) p
  · have e : i = xs.length := by omega
    subst e
    exact .inl ⟨⟨xs, q, Nat.le_refl _⟩, hd σ H p⟩
theorem for_tup {K : PySem.W.Frag} {a : Addr} {xs : List V} {g : TG} {tb : TS} {D : Ends} {σ : St} {H : Hp} (Pv : Nat → St → Hp → Prop) (h0 : Pv 0 σ H) (hl : ∀ i σ H, i ≤ xs.length → Pv i σ H → SqT K H a xs)
    (hs : ∀ i x σ H, xs[i]? = some x → Pv i σ H → g x σ H fun σ2 H2 => tb { D with nx := Pv (i + 1), ct := Pv (i + 1), bk := D.nx } σ2 H2) (hd : ∀ σ H, Pv xs.length σ H → D.nx σ H) :
    ∃ W : Nat → Nat → St → Hp → Prop, (∃ m, W 0 m σ H) ∧ ∀ i m σ H, W i m σ H →
      ((Itt K a).stop i H ∧ D.nx σ H) ∨ ((Itt K a).go i H ∧ ∃ N : St → Hp → Prop, (∀ σ' H', N σ' H' → ∃ m', m' < m ∧ W (i + 1) m' σ' H') ∧ ∀ x H', (Itt K a).yld i H x H' → g x σ H' fun σ2 H2 => tb { D with nx := N, ct := N, bk := D.nx } σ2 H2) := by
  refine ⟨fun i m σ H => m = xs.length - i ∧ i ≤ xs.length ∧ Pv i σ H, ⟨xs.length, by simp, Nat.zero_le _, h0⟩, ?_⟩
  rintro i m σ H ⟨rfl, hi, p⟩
  have q := hl i σ H hi p
  by_cases hlt : i < xs.length
  · refine .inr ⟨⟨xs, xs[i], q, by simp [hlt]⟩, Pv (i + 1), fun σ' H' p' => ⟨xs.length - (i + 1), by omega, rfl, hlt, p'⟩, fun x H' y => ?_⟩
    obtain ⟨e, y⟩ := y
    subst e
    exact hs i x σ _ (y xs q) p
  · have e : i = xs.length := by omega
    subst e
    exact .inl ⟨⟨xs, q, Nat.le_refl _⟩, hd σ H p⟩
theorem for_range {lo : Int} {n : Nat} {g : TG} {tb : TS} {D : Ends} {σ : St} {H : Hp} (Pv : Nat → St → Hp → Prop) (h0 : Pv 0 σ H)
    (hs : ∀ i σ H, i < n → Pv i σ H → g (.int (lo + i)) σ H fun σ2 H2 => tb { D with nx := Pv (i + 1), ct := Pv (i + 1), bk := D.nx } σ2 H2) (hd : ∀ σ H, Pv n σ H → D.nx σ H) :
    ∃ W : Nat → Nat → St → Hp → Prop, (∃ m, W 0 m σ H) ∧ ∀ i m σ H, W i m σ H →
      ((Itr lo n).stop i H ∧ D.nx σ H) ∨ ((Itr lo n).go i H ∧ ∃ N : St → Hp → Prop, (∀ σ' H', N σ' H' → ∃ m', m' < m ∧ W (i + 1) m' σ' H') ∧ ∀ x H', (Itr lo n).yld i H x H' → g x σ H' fun σ2 H2 => tb { D with nx := N, ct := N, bk := D.nx } σ2 H2) := by
  refine ⟨fun i m σ H => m = n - i ∧ i ≤ n ∧ Pv i σ H, ⟨n, by simp, Nat.zero_le _, h0⟩, ?_⟩
  rintro i m σ H ⟨rfl, hi, p⟩
  by_cases hlt : i < n
  · refine .inr ⟨hlt, Pv (i + 1), fun σ' H' p' => ⟨n - (i + 1), by omega, rfl, hlt, p'⟩, fun x H' y => ?_⟩
    obtain ⟨e, y⟩ := y
    subst e y
    exact hs i σ _ hlt p
  · have e : i = n := by omega
    subst e
    exact .inl ⟨Nat.le_refl _, hd σ H p⟩
theorem while_by {c : TT} {tb : TS} {D : Ends} {σ : St} {H : Hp} (Pv : St → Hp → Prop) (μ : St → Hp → Nat) (h0 : Pv σ H)
    (hs : ∀ σ H, Pv σ H → c σ H fun b H1 => if b = true then tb { D with nx := fun σ' H' => Pv σ' H' ∧ μ σ' H' < μ σ H, ct := fun σ' H' => Pv σ' H' ∧ μ σ' H' < μ σ H, bk := D.nx } σ H1 else D.nx σ H1)
    (mono : ∀ σ H Q Q', (∀ b H1, Q b H1 → Q' b H1) → c σ H Q → c σ H Q') : tWhile c tb D σ H := by
  refine ⟨fun m σ H => m = μ σ H ∧ Pv σ H, ⟨_, rfl, h0⟩, ?_⟩
  rintro m σ H ⟨rfl, p⟩
  refine mono σ H _ _ (fun b H1 q => ?_) (hs σ H p)
  cases b with
  | true => exact ⟨_, fun σ' H' ⟨p', l⟩ => ⟨_, l, rfl, p'⟩, q⟩
  | false => exact q
end L2
namespace L2
open PySem PySem.Spec PyProof.Rows
noncomputable abbrev R2 := V → V → Hp → VK → Prop
noncomputable def OpR (X : Cx) (f : Value → Value → Sem Value) (r : R2) : Prop :=
  ∀ (pins : List (Addr × Obj)) (s : Shared) (σ : St) (H : Hp) (x y : V) (v u : Value) (Q : VK), Inv X pins σ H s → RelV x v → RelV y u → r x y H Q →
    wpAny (model X.prog X.w) X.A (f v u) (EP X pins σ Q) X.xe s
noncomputable def UnR (X : Cx) (f : Value → Sem Value) (r : V → Hp → VK → Prop) : Prop :=
  ∀ (pins : List (Addr × Obj)) (s : Shared) (σ : St) (H : Hp) (x : V) (v : Value) (Q : VK), Inv X pins σ H s → RelV x v → r x H Q →
    wpAny (model X.prog X.w) X.A (f v) (EP X pins σ Q) X.xe s
noncomputable def CallR (X : Cx) (f : Value) (r : List V → Hp → VK → Prop) : Prop :=
  ∀ (pins : List (Addr × Obj)) (s : Shared) (σ : St) (H : Hp) (xs : List V) (us : List Value) (Q : VK), Inv X pins σ H s → Vals xs us → r xs H Q →
    wpAny (model X.prog X.w) X.A (call f us) (EP X pins σ Q) X.xe s
noncomputable def TruR (X : Cx) (r : V → Hp → (Bool → Hp → Prop) → Prop) : Prop :=
  ∀ (pins : List (Addr × Obj)) (s : Shared) (σ : St) (H : Hp) (x : V) (v : Value) (Q : Bool → Hp → Prop), Inv X pins σ H s → RelV x v → r x H Q →
    wpAny (model X.prog X.w) X.A (truthy v) (TP X pins σ Q) X.xe s
noncomputable def tOp (r : R2) (ta tb : TE) : TE := fun σ H Q => ta σ H fun x H1 => tb σ H1 fun y H2 => r x y H2 Q
noncomputable def tUn (r : V → Hp → VK → Prop) (ta : TE) : TE := fun σ H Q => ta σ H fun x H1 => r x H1 Q
noncomputable def rI (C : Int → Int → Prop) (g : Int → Int → V) : R2 := fun x y H Q => ∃ i j, x = .int i ∧ y = .int j ∧ C i j ∧ Q (g i j) H
noncomputable def rI0 (g : Int → Int → V) : R2 := fun x y H Q => ∃ i j, x = .int i ∧ y = .int j ∧ Q (g i j) H
noncomputable def rU (g : Int → V) : V → Hp → VK → Prop := fun x H Q => ∃ i, x = .int i ∧ Q (g i) H
section
variable {X : Cx} {a b c : Expr} {ta tb tc : TE} {pos : Pos}
theorem binT (ha : PE X a ta) (hb : PE X b tb) {pins : List (Addr × Obj)} {s : Shared} {σ : St} {H : Hp} {R : V → V → Hp → Prop} (I : Inv X pins σ H s)
    (h : ta σ H fun x H1 => tb σ H1 fun y H2 => R x y H2) {Q : Value → Shared → Prop} {f : Value → Value → Sem Value}
    (hf : ∀ v u s2 x y H2, Inv X pins σ H2 s2 → RelV x v → RelV y u → R x y H2 → wpAny (model X.prog X.w) X.A (f v u) Q X.xe s2) :
    wpAny (model X.prog X.w) X.A (eval a X.env) (fun v s₁ => wpAny (model X.prog X.w) X.A (eval b X.env) (fun u s₂ => wpAny (model X.prog X.w) X.A (f v u) Q X.xe s₂) X.xe s₁) X.xe s := by
  refine thn (ha pins s σ H _ I h) fun v s1 ⟨x, H1, I1, r1, q1⟩ => ?_
  refine thn (hb pins s1 σ H1 _ I1 q1) fun u s2 ⟨y, H2, I2, r2, q2⟩ => ?_
  exact hf v u s2 x y H2 I2 r1 r2 q2
theorem pe_op {op : Operator} {r : R2} (ho : OpR X (binaryOp op) r) (ha : PE X a ta) (hb : PE X b tb) : PE X (.BinOp a op b pos) (tOp r ta tb) := by
  intro pins s σ H Q I h
  exact wpAny_BinOp (binT ha hb I h fun v u s2 x y H2 I2 rx ry q => ho pins s2 σ H2 x y v u Q I2 rx ry q)
theorem pe_un {op : UnaryOp} {r : V → Hp → VK → Prop} (ho : UnR X (unaryOp op) r) (ha : PE X a ta) : PE X (.UnaryOp op a pos) (tUn r ta) := by
  intro pins s σ H Q I h
  exact UnaryOp_ (thn (ha pins s σ H _ I h) fun v s1 ⟨x, H1, I1, r1, q1⟩ => ho pins s1 σ H1 x v Q I1 r1 q1)
theorem opI {f : Value → Value → Sem Value} {C : Int → Int → Prop} {g : Int → Int → Int}
    (rule : ∀ (i j : Int) (t u : Tok) (s : Shared) (Q : Value → Shared → Prop) (E : Value → Shared → Prop), C i j → Q (.int (g i j) s.toks) { s with toks := s.toks + 1 } → wpAny (model X.prog X.w) X.A (f (.int i t) (.int j u)) Q E s) :
    OpR X f (rI C fun i j => .int (g i j)) := by
  intro pins s σ H x y v u Q I rx ry h
  obtain ⟨i, j, rfl, rfl, hc, q⟩ := h
  obtain ⟨t, rfl⟩ := rx
  obtain ⟨t', rfl⟩ := ry
  exact rule i j t t' s _ _ hc ⟨.int (g i j), H, I.tok _, ⟨_, rfl⟩, q⟩
theorem opI0 {f : Value → Value → Sem Value} {g : Int → Int → Int}
    (rule : ∀ (i j : Int) (t u : Tok) (s : Shared) (Q : Value → Shared → Prop) (E : Value → Shared → Prop), Q (.int (g i j) s.toks) { s with toks := s.toks + 1 } → wpAny (model X.prog X.w) X.A (f (.int i t) (.int j u)) Q E s) :
    OpR X f (rI0 fun i j => .int (g i j)) := by
  intro pins s σ H x y v u Q I rx ry h
  obtain ⟨i, j, rfl, rfl, q⟩ := h
  obtain ⟨t, rfl⟩ := rx
  obtain ⟨t', rfl⟩ := ry
  exact rule i j t t' s _ _ ⟨.int (g i j), H, I.tok _, ⟨_, rfl⟩, q⟩
theorem opB0 {f : Value → Value → Sem Value} {g : Int → Int → Bool}
    (rule : ∀ (i j : Int) (t u : Tok) (s : Shared) (Q : Value → Shared → Prop) (E : Value → Shared → Prop), Q (.bool (g i j)) s → wpAny (model X.prog X.w) X.A (f (.int i t) (.int j u)) Q E s) :
    OpR X f (rI0 fun i j => .bl (g i j)) := by
  intro pins s σ H x y v u Q I rx ry h
  obtain ⟨i, j, rfl, rfl, q⟩ := h
  obtain ⟨t, rfl⟩ := rx
  obtain ⟨t', rfl⟩ := ry
  exact rule i j t t' s _ _ ⟨.bl (g i j), H, I, rfl, q⟩
noncomputable def CDiv (i j : Int) : Prop := 0 < j ∧ j < 1073741824
noncomputable def CPow (i j : Int) : Prop := 0 ≤ j ∧ j ≤ 1000000 ∧ i.natAbs < 2 ^ 64
noncomputable def CMul (i j : Int) : Prop := (-(2 ^ 64) < i ∧ i < 2 ^ 64) ∨ (-(2 ^ 64) < j ∧ j < 2 ^ 64)
theorem CMul.ok {i j : Int} (h : CMul i j) : IntMulOk i j := by
  rcases h with ⟨h1, h2⟩ | ⟨h1, h2⟩
  · exact .of_left (intBits_le_64 h1 h2)
  · exact .of_right (intBits_le_64 h1 h2)
theorem op_add : OpR X (binaryOp .Add) (rI0 fun i j => .int (i + j)) := opI0 fun _ _ _ _ _ _ _ q => add_int q
theorem op_sub : OpR X (binaryOp .Sub) (rI0 fun i j => .int (i - j)) := opI0 fun _ _ _ _ _ _ _ q => sub_int q
theorem op_mul : OpR X (binaryOp .Mult) (rI CMul fun i j => .int (i * j)) := opI fun _ _ _ _ _ _ _ hc q => mul_int q hc.ok
theorem op_fdiv : OpR X (binaryOp .FloorDiv) (rI CDiv fun i j => .int (i / j)) := opI fun i j _ _ _ _ _ hc q => by
  have h1 : (0 : Int) < j := hc.1
  have h2 : j < 1073741824 := hc.2
  exact floordiv_int (by omega) (by rw [Int.fdiv_eq_ediv_of_nonneg i (by omega)]; exact q) (.inl (PyProof.noPylong_small (by omega)))
theorem op_mod : OpR X (binaryOp .Mod) (rI (fun _ j => 0 < j) fun i j => .int (i % j)) := opI fun i j _ _ _ _ _ hc q => by
  have h1 : (0 : Int) < j := hc
  exact mod_int' (by omega) (by rw [Int.fmod_eq_emod_of_nonneg i (by omega)]; exact q)
theorem op_pow : OpR X (binaryOp .Pow) (rI CPow fun i j => .int (i ^ j.toNat)) := opI fun _ _ _ _ _ _ _ hc q => pow_int_small hc.1 hc.2.1 hc.2.2 q
theorem unI {f : Value → Sem Value} {g : Int → Int}
    (rule : ∀ (i : Int) (t : Tok) (s : Shared) (Q : Value → Shared → Prop) (E : Value → Shared → Prop), Q (.int (g i) s.toks) { s with toks := s.toks + 1 } → wpAny (model X.prog X.w) X.A (f (.int i t)) Q E s) :
    UnR X f (rU fun i => .int (g i)) := by
  intro pins s σ H x v Q I rx h
  obtain ⟨i, rfl, q⟩ := h
  obtain ⟨t, rfl⟩ := rx
  exact rule i t s _ _ ⟨.int (g i), H, I.tok _, ⟨_, rfl⟩, q⟩
theorem un_neg : UnR X (unaryOp .USub) (rU fun i => .int (-i)) := unI fun _ _ _ _ _ q => neg_int q
end
noncomputable def scal : V → V → Bool
  | .non, .non => true | .non, .int _ => true | .int _, .non => true | .non, .bl _ => true | .bl _, .non => true | .non, .str _ => true | .str _, .non => true
  | .int _, .int _ => true | .bl _, .bl _ => true | .str _, .str _ => true | .byt _, .byt _ => true
  | .int _, .str _ => true | .str _, .int _ => true | .bl _, .str _ => true | .str _, .bl _ => true
  | _, _ => false
noncomputable def rEq : R2 := fun x y H Q => scal x y = true ∧ Q (.bl (decide (x = y))) H
noncomputable def rNe : R2 := fun x y H Q => scal x y = true ∧ Q (.bl (!decide (x = y))) H
theorem dec_int {i j : Int} : decide (V.int i = V.int j) = (i == j) := by
  rw [Bool.eq_iff_iff]
  simp
theorem dec_bl {i j : Bool} : decide (V.bl i = V.bl j) = (i == j) := by
  rw [Bool.eq_iff_iff]
  simp
theorem dec_str {i j : Str} : decide (V.str i = V.str j) = (i == j) := by
  rw [Bool.eq_iff_iff]
  simp
theorem dec_byt {i j : Array UInt8} : decide (V.byt i = V.byt j) = (i.toList == j.toList) := by
  rw [Bool.eq_iff_iff]
  cases i
  cases j
  simp
section
variable {X : Cx} {a b c : Expr} {ta tb tc : TE} {pos : Pos}
theorem fin_bl {pins : List (Addr × Obj)} {σ : St} {H : Hp} {s : Shared} {Q : VK} {k k' : Bool} (I : Inv X pins σ H s) (q : Q (.bl k) H) (e : k = k') : EP X pins σ Q (.bool k') s := by
  subst e
  exact ⟨.bl k, H, I, rfl, q⟩
theorem op_eq : OpR X (compareOp .Eq) rEq := by
  intro pins s σ H x y v u Q I rx ry h
  obtain ⟨hs, q⟩ := h
  cases x with
  | non =>
    cases rx
    cases y with
    | non => cases ry; exact PySem.EqNone.eq_none_none (fin_bl I q (by simp))
    | bl j => cases ry; exact PySem.EqNone.eq_none_bool (fin_bl I q (by simp))
    | int j => obtain ⟨t', rfl⟩ := ry; exact PySem.EqNone.eq_none_int (fin_bl I q (by simp))
    | str j => obtain ⟨t', rfl⟩ := ry; exact PySem.EqNone.eq_none_str (fin_bl I q (by simp))
    | _ => exact absurd (show false = true from hs) Bool.false_ne_true
  | bl i =>
    cases rx
    cases y with
    | non => cases ry; exact PySem.EqNone.eq_bool_none (fin_bl I q (by simp))
    | bl j => cases ry; exact eq_bool (fin_bl I q dec_bl)
    | str j => obtain ⟨t', rfl⟩ := ry; exact PySem.EqMixed.eq_bool_str (fin_bl I q (by simp))
    | _ => exact absurd (show false = true from hs) Bool.false_ne_true
  | int i =>
    obtain ⟨t, rfl⟩ := rx
    cases y with
    | non => cases ry; exact PySem.EqNone.eq_int_none (fin_bl I q (by simp))
    | int j => obtain ⟨t', rfl⟩ := ry; exact eq_int (fin_bl I q dec_int)
    | str j => obtain ⟨t', rfl⟩ := ry; exact PySem.EqMixed.eq_int_str (fin_bl I q (by simp))
    | _ => exact absurd (show false = true from hs) Bool.false_ne_true
  | str i =>
    obtain ⟨t, rfl⟩ := rx
    cases y with
    | non => cases ry; exact PySem.EqNone.eq_str_none (fin_bl I q (by simp))
    | bl j => cases ry; exact PySem.EqMixed.eq_str_bool (fin_bl I q (by simp))
    | int j => obtain ⟨t', rfl⟩ := ry; exact PySem.EqMixed.eq_str_int (fin_bl I q (by simp))
    | str j => obtain ⟨t', rfl⟩ := ry; exact eq_str (fin_bl I q dec_str)
    | _ => exact absurd (show false = true from hs) Bool.false_ne_true
  | byt i =>
    obtain ⟨t, rfl⟩ := rx
    cases y with
    | byt j => obtain ⟨t', rfl⟩ := ry; exact PySem.W.eq_bytes (fin_bl I q dec_byt)
    | _ => exact absurd (show false = true from hs) Bool.false_ne_true
  | _ => cases y <;> exact absurd (show false = true from hs) Bool.false_ne_true
theorem op_ne : OpR X (compareOp .NotEq) rNe := by
  intro pins s σ H x y v u Q I rx ry h
  obtain ⟨hs, q⟩ := h
  cases x with
  | non =>
    cases rx
    cases y with
    | non => cases ry; exact PySem.EqNone.ne_none_none (fin_bl I q (by simp))
    | bl j => cases ry; exact PySem.EqNone.ne_none_bool (fin_bl I q (by simp))
    | int j => obtain ⟨t', rfl⟩ := ry; exact PySem.EqNone.ne_none_int (fin_bl I q (by simp))
    | str j => obtain ⟨t', rfl⟩ := ry; exact PySem.EqNone.ne_none_str (fin_bl I q (by simp))
    | _ => exact absurd (show false = true from hs) Bool.false_ne_true
  | bl i =>
    cases rx
    cases y with
    | non => cases ry; exact PySem.EqNone.ne_bool_none (fin_bl I q (by simp))
    | bl j => cases ry; exact ne_bool (fin_bl I q (congrArg not dec_bl))
    | str j => obtain ⟨t', rfl⟩ := ry; exact PySem.EqMixed.ne_bool_str (fin_bl I q (by simp))
    | _ => exact absurd (show false = true from hs) Bool.false_ne_true
  | int i =>
    obtain ⟨t, rfl⟩ := rx
    cases y with
    | non => cases ry; exact PySem.EqNone.ne_int_none (fin_bl I q (by simp))
    | int j => obtain ⟨t', rfl⟩ := ry; exact ne_int (fin_bl I q (congrArg not dec_int))
    | str j => obtain ⟨t', rfl⟩ := ry; exact PySem.EqMixed.ne_int_str (fin_bl I q (by simp))
    | _ => exact absurd (show false = true from hs) Bool.false_ne_true
  | str i =>
    obtain ⟨t, rfl⟩ := rx
    cases y with
    | non => cases ry; exact PySem.EqNone.ne_str_none (fin_bl I q (by simp))
    | bl j => cases ry; exact PySem.EqMixed.ne_str_bool (fin_bl I q (by simp))
    | int j => obtain ⟨t', rfl⟩ := ry; exact PySem.EqMixed.ne_str_int (fin_bl I q (by simp))
    | str j => obtain ⟨t', rfl⟩ := ry; exact ne_str (fin_bl I q (congrArg not dec_str))
    | _ => exact absurd (show false = true from hs) Bool.false_ne_true
  | byt i =>
    obtain ⟨t, rfl⟩ := rx
    cases y with
    | byt j => obtain ⟨t', rfl⟩ := ry; exact PySem.W.ne_bytes (fin_bl I q (congrArg not dec_byt))
    | _ => exact absurd (show false = true from hs) Bool.false_ne_true
  | _ => cases y <;> exact absurd (show false = true from hs) Bool.false_ne_true
theorem op_lt : OpR X (compareOp .Lt) (rI0 fun i j => .bl (decide (i < j))) := opB0 fun _ _ _ _ _ _ _ q => lt_int q
theorem op_le : OpR X (compareOp .LtE) (rI0 fun i j => .bl (decide (i ≤ j))) := opB0 fun _ _ _ _ _ _ _ q => le_int q
theorem op_gt : OpR X (compareOp .Gt) (rI0 fun i j => .bl (decide (j < i))) := opB0 fun _ _ _ _ _ _ _ q => gt_int q
theorem nomark (b : Expr) {op : CmpOp} (h : op ≠ .In := by decide) (h2 : op ≠ .NotIn := by decide) : behindInMarks op b = false := by
  have e1 : (op == CmpOp.In) = false := by cases op <;> first | rfl | exact absurd rfl h
  have e2 : (op == CmpOp.NotIn) = false := by cases op <;> first | rfl | exact absurd rfl h2
  cases b <;> simp [behindInMarks, e1, e2]
theorem pe_cmpR {op : CmpOp} {r : R2} (ho : OpR X (compareOp op) r) (ha : PE X a ta) (hb : PE X b tb) (hm : behindInMarks op b = false) : PE X (.Compare a [op] [b] pos) (tOp r ta tb) := by
  intro pins s σ H Q I h
  exact wpAny_Compare1 (binT ha hb I h fun v u s2 x y H2 I2 rx ry q => ho pins s2 σ H2 x y v u Q I2 rx ry q) hm
noncomputable def tTest (t : TE) : TT := fun σ H Q => t σ H fun x H' => ∃ k, x = .bl k ∧ Q k H'
theorem pt_cmpR {op : CmpOp} {r : R2} (ho : OpR X (compareOp op) r) (ha : PE X a ta) (hb : PE X b tb) (hm : behindInMarks op b = false) : PT X (.Compare a [op] [b] pos) (tTest (tOp r ta tb)) := by
  intro pins s σ H Q I h
  refine wpAny_isTrue_Compare1 (thn (ha pins s σ H _ I h) fun v s1 ⟨x, H1, I1, r1, q1⟩ => thn (hb pins s1 σ H1 _ I1 q1) fun u s2 ⟨y, H2, I2, r2, q2⟩ =>
    thn (ho pins s2 σ H2 x y v u _ I2 r1 r2 q2) fun c s3 ⟨z, H3, I3, r3, k, e, q3⟩ => ?_) hm
  subst e
  cases r3
  exact wpAny_truthy_bool ⟨H3, I3, q3⟩
noncomputable def TruV (K : PySem.W.Frag) (x : V) (H : Hp) (k : Bool) : Prop :=
  match x with
  | .non => k = false
  | .bl b => k = b
  | .int i => k = (i != 0)
  | .str y => y.length ≤ sizeLine ∧ k = ((y.length : Int) != 0)
  | .byt y => y.size ≤ sizeLine ∧ k = ((y.size : Int) != 0)
  | .ref p => (∃ xs, SqL K H p xs ∧ k = !xs.isEmpty) ∨ (∃ xs, SqT K H p xs ∧ k = !xs.isEmpty) ∨ ∃ kvs, H p = some (.dK kvs) ∧ k = !kvs.isEmpty
  | _ => False
theorem isEmpty_kv {κ : Type} {kvs : List (κ × V)} {vs : List (κ × Value)} (r : KV kvs vs) : (!vs.isEmpty) = !kvs.isEmpty := by
  cases r <;> rfl
theorem isEmpty_of {xs : List V} {its : List Value} (r : Vals xs its) : (!its.toArray.isEmpty) = !xs.isEmpty := by
  cases r <;> simp
theorem line63 : (sizeLine : Nat) < 2 ^ 63 := by rw [sizeLine_eq]; decide
theorem tru_ok : TruR X (fun x H Q => ∃ k, TruV X.K x H k ∧ Q k H) := by
  intro pins s σ H x v Q I rx h
  obtain ⟨k, e, q⟩ := h
  have hl := line63
  have hs : sizeLine = 16777216 := sizeLine_eq
  cases x with
  | non =>
    cases rx
    have e' : k = false := e
    subst e'
    exact truthy_none ⟨H, I, q⟩
  | bl b =>
    cases rx
    have e' : k = b := e
    subst e'
    exact wpAny_truthy_bool ⟨H, I, q⟩
  | int i =>
    obtain ⟨t, rfl⟩ := rx
    have e' : k = (i != 0) := e
    subst e'
    exact PySem.P.truthy_int ⟨H, I, q⟩
  | str y =>
    obtain ⟨t, rfl⟩ := rx
    obtain ⟨hy, e'⟩ : y.length ≤ sizeLine ∧ k = ((y.length : Int) != 0) := e
    subst e'
    exact PySem.P.truthy_str (by omega) ⟨H, I.tok _, q⟩
  | byt y =>
    obtain ⟨t, rfl⟩ := rx
    obtain ⟨hy, e'⟩ : y.size ≤ sizeLine ∧ k = ((y.size : Int) != 0) := e
    subst e'
    exact PySem.W.truthy_bytes (by omega) ⟨H, I.tok _, q⟩
  | ref p =>
    cases rx
    have e' : (∃ xs, SqL X.K H p xs ∧ k = !xs.isEmpty) ∨ (∃ xs, SqT X.K H p xs ∧ k = !xs.isEmpty) ∨ ∃ kvs, H p = some (.dK kvs) ∧ k = !kvs.isEmpty := e
    rcases e' with ⟨xs, hx, e'⟩ | ⟨xs, hx, e'⟩ | ⟨kvs, hx, e'⟩
    · subst e'
      obtain ⟨its, r, pl, hz⟩ := I.list hx
      have hlen := r.length
      exact wpAny_truthy_list pl.isList (by simp only [List.size_toArray]; omega) ⟨H, I.tok _, by rw [isEmpty_of r]; exact q⟩
    · subst e'
      obtain ⟨its, r, pl, hz⟩ := I.tuple hx
      have hlen := r.length
      exact truthy_tuple pl (by simp only [List.size_toArray]; omega) ⟨H, I.tok _, by rw [isEmpty_of r]; exact q⟩
    · subst e'
      obtain ⟨hz, hS, vs, r, m⟩ : kvs.length ≤ sizeLine ∧ (p == sysModules) = false ∧ ∃ vs, KV kvs vs ∧ s.heap.DictOf (mixKind X.prog X.w) p vs := I.hok p _ hx
      have hlen : kvs.length = vs.length := Paired.length r
      exact wpAny_truthy_dict hS m (by omega) ⟨H, I.tok _, by rw [isEmpty_kv r]; exact q⟩
  | _ => exact (show False from e).elim
theorem pt_truth (ha : PE X a ta) (he : ∀ whole, isTrue a X.env whole = (do let v ← whole; standAt a.pos; holding [v] (truthy v))) :
    PT X a (fun σ H Q => ta σ H fun x H' => ∃ k, TruV X.K x H' k ∧ Q k H') := by
  intro pins s σ H Q I h
  exact isTrue_plain (thn (ha pins s σ H _ I h) fun v s1 ⟨x, H1, I1, r1, q1⟩ => tru_ok pins s1 σ H1 x v Q I1 r1 q1) (he _)
theorem op_add_str : OpR X (binaryOp .Add) (fun x y H Q => ∃ i j, x = .str i ∧ y = .str j ∧ i.length + j.length ≤ sizeLine ∧ Q (.str (i ++ j)) H) := by
  intro pins s σ H x y v u Q I rx ry h
  obtain ⟨i, j, rfl, rfl, hz, q⟩ := h
  obtain ⟨t, rfl⟩ := rx
  obtain ⟨t', rfl⟩ := ry
  exact add_str (fun t' tk => ⟨.str (i ++ j), H, I.tok _, ⟨_, rfl⟩, q⟩) hz
theorem vals1 {x : V} {us : List Value} (r : Vals [x] us) : ∃ u, us = [u] ∧ RelV x u := by
  cases r with
  | cons r1 r2 => cases r2; exact ⟨_, rfl, r1⟩
theorem vals2 {x y : V} {us : List Value} (r : Vals [x, y] us) : ∃ u w', us = [u, w'] ∧ RelV x u ∧ RelV y w' := by
  cases r with
  | cons r1 r2 =>
    cases r2 with
    | cons r3 r4 => cases r4; exact ⟨_, _, rfl, r1, r3⟩
theorem call_int1 : CallR X (.type "int") (fun xs H Q => (∃ i, xs = [.int i] ∧ Q (.int i) H) ∨ ∃ k, xs = [.bl k] ∧ Q (.int (if k then 1 else 0)) H) := by
  intro pins s σ H xs us Q I r h
  rcases h with ⟨i, rfl, q⟩ | ⟨k, rfl, q⟩
  · obtain ⟨u, rfl, t, rfl⟩ := vals1 r
    exact call_int_int ⟨.int i, H, I, ⟨_, rfl⟩, q⟩
  · obtain ⟨u, rfl, r1⟩ := vals1 r
    cases r1
    exact call_int_bool ⟨.int (if k then 1 else 0), H, I.tok _, ⟨_, rfl⟩, q⟩
theorem call_str_int : CallR X (.type "str") (fun xs H Q => ∃ i, xs = [.int i] ∧ i.natAbs.log2 < 1920 ∧ Q (.str (toString i)) H) := by
  intro pins s σ H xs us Q I r h
  obtain ⟨i, rfl, hz, q⟩ := h
  obtain ⟨u, rfl, t, rfl⟩ := vals1 r
  exact PySem.P.str_of_int hz ⟨.str _, H, I.tok _, ⟨_, rfl⟩, q⟩
end
end L2
namespace L2
open PySem PySem.Spec PyProof.Rows
structure ObjM (h : Heap) (x dx C : Addr) (mA : Str → Option Value) : Prop where
  obj : h.get? x = some (PySem.W.instObj C dx)
  ns : h.Ns1 dx mA
  ne : dx ≠ x
theorem lookIn_ns {h : Heap} {dx : Addr} {mA : Str → Option Value} (n : h.Ns1 dx mA) : ∃ od, h.get? dx = some od ∧ ∀ name, PySem.W.lookIn name od = some (mA name) := by
  obtain ⟨o, es, ep, ho, hd, hk, _, hm⟩ := n
  refine ⟨o, ho, fun name => ?_⟩
  have e := hm name
  unfold nsFind findBy at e
  rw [← Array.find?_toList] at e
  unfold PySem.W.lookIn
  rw [hd]
  dsimp only
  split
  · rename_i y q
    rw [q] at e
    exact congrArg some e
  · rename_i q
    rw [q] at e
    have a : es.toList.any (·.refKey) = false := by
      rw [List.any_eq_false]
      intro y hy
      obtain ⟨z, t, hkey⟩ := hk y (Array.mem_toList_iff.mp hy)
      simp [DictEntry.refKey, hkey]
    have a' : ¬ es.toList.any (·.refKey) = true := by rw [a]; exact Bool.false_ne_true
    rw [if_neg a']
    exact congrArg some e
theorem ObjM.look {h : Heap} {x dx C : Addr} {mA : Str → Option Value} (I : ObjM h x dx C mA) : ∃ od, PySem.W.InstAt h x (PySem.W.instObj C dx) C (some od) ∧ ∀ name, PySem.W.lookIn name od = some (mA name) :=
  let ⟨od, ho, hl⟩ := lookIn_ns I.ns
  ⟨od, ⟨I.obj, rfl, rfl, ho⟩, hl⟩
section
variable {prog : Program} {w : World} {A : Around} {E : Value → Shared → Prop} {s : Shared} {K : PySem.W.Frag} {x dx C f : Addr} {mA : Str → Option Value} {name : Str} {v : Value}
theorem get_map {expr : Bool} {Q : Value → Shared → Prop} (X : K.In s.heap) (I : ObjM s.heap x dx C mA) (hg : PySem.W.plainGet K C name = true) (hh : PySem.W.hasDictIn K C = true)
    (ha : PySem.W.findIn K (.ref C) name = some none) (hv : mA name = some v) (hv' : PySem.W.handedIn v = true) (h : Q v { s with toks := s.toks + 1 }) :
    wpAny (model prog w) A (getAttr (.ref x) name expr) Q E s := by
  obtain ⟨od, J, hl⟩ := I.look
  exact PySem.W.get_value X J (PySem.W.plainGet_of hg).1 (PySem.W.findObj_own hh ha rfl (by rw [hl, hv])) hv' h
theorem get_meth {pl : Sem Bool} {Q : Value × List Value → Shared → Prop} (X : K.In s.heap) (I : ObjM s.heap x dx C mA) (hg : PySem.W.plainGet K C name = true)
    (hf : PySem.W.findIn K (.ref C) name = some (some (.ref f))) (ht : PySem.W.isFn K (.ref f) = true) (hv : mA name = none) (h : Q (.ref f, [.ref x]) s) :
    wpAny (model prog w) A (getMethod (.ref x) name pl) Q E s := by
  obtain ⟨od, J, hl⟩ := I.look
  exact PySem.W.method_fn X J (PySem.W.plainGet_of hg).1 (PySem.W.plainGet_of hg).2 hf (beq_iff_eq.mp ht) (by show (PySem.W.lookIn name od).map (·.isSome) = some false; rw [hl, hv]; rfl) h
theorem set_map {ns : List Str} {Q : Unit → Shared → Prop} (X : K.In s.heap) (I : ObjM s.heap x dx C mA)
    (hs : PySem.W.findIn K (.ref C) "__setattr__" = some (some (.builtin "object.__setattr__"))) (hp : PySem.W.plainOver K C = true) (ht : PySem.W.takerIn K C name = some none) (hh : PySem.W.hasDictIn K C = true)
    (hw : PySem.Within mA ns) (hsz : ns.length ≤ sizeLine)
    (h : ∀ h', ObjM h' x dx C (fun y => if y = name then some v else mA y) → Heap.SameBut dx s.heap h' → Q () { s with heap := h', toks := s.toks + 2 }) :
    wpAny (model prog w) A (setAttr (.ref x) name v) Q E s := by
  obtain ⟨od, J, hl⟩ := I.look
  refine PySem.W.set_plain X J hs (PySem.W.osa_open (s := { s with toks := s.toks + 1 }) (r := none) X J hp ht fun b => ?_)
  obtain ⟨cd, hc, hd'⟩ := PySem.W.any_some hh
  have hx : s.heap.get? x = some ⟨.ref C, some dx, .plain, #[]⟩ := I.obj
  refine wpAny_bind (wpAny_pure (wpAny_bind (wpAny_bind (wpAny_loadPart hx (wpAny_bind (PySem.W.Looks.here (s := { s with toks := s.toks + 1 }) (PySem.W.looks_clsIn X hc) ?_))))))
  rw [hd']
  refine wpAny_pure (a := some dx) (wpAny_bind (wpAny_pure (wpAny_bind ?_)))
  refine wpAny_nsSet1 (s := { s with toks := s.toks + 1 }) I.ns fun h' hn2 hs2 => ?_
  obtain ⟨oD, esD, epD, hoD, hdD, hcD⟩ := hn2.count (PySem.Within.cons name v hw)
  refine wpAny_bind (wpAny_lookBehind hoD (by rw [hdD]; exact pastItsLine_dict (Nat.le_trans hcD (by rw [List.length_cons]; omega))) ?_)
  exact wpAny_pure (h _ ⟨(hs2.2 _ (Ne.symm I.ne)).trans I.obj, hn2, I.ne⟩ hs2)
theorem make_map {R : Result → Shared → Prop} {vs : List Value} {kw : List (Str × Value)} (X : K.In s.heap) (hm : PySem.W.makesIn K C = true)
    (hi : PySem.W.findIn K (.ref C) "__init__" = some (some (.ref f))) (hf : PySem.W.typeIn K (.ref f) = some (.type "function"))
    (h : codeAny (model prog w) (A.under (.builtin "type.__call__" ⟨.ref C :: vs, kw⟩)) (.call (.ref f) ⟨.ref (s.heap.objs.size + 1) :: vs, kw⟩) (PySem.W.InitBack (s.heap.objs.size + 1) R)
      { s with heap := (s.heap.push PySem.W.emptyDict).push (PySem.W.instObj C s.heap.objs.size) }) :
    codeAny (model prog w) A (.call (.ref C) ⟨vs, kw⟩) R s := by
  obtain ⟨hh, g, d, t, os⟩ := s
  exact PySem.W.make_core (PySem.W.makes_of X hm) (PySem.W.looks_findIn X hi) (fun self => PySem.W.bind_fn X self hf) (.inl rfl) h
end
noncomputable def putF (f : Str) (v : V) : List (Str × V) → List (Str × V)
  | [] => [(f, v)]
  | (g, x) :: r => if g = f then (g, v) :: r else (g, x) :: putF f v r
theorem lookup_putF (f g : Str) (v : V) : ∀ fs : List (Str × V), (putF f v fs).lookup g = if g = f then some v else fs.lookup g
  | [] => by
    show List.lookup g [(f, v)] = _
    by_cases h : g = f
    · have hb : (g == f) = true := beq_iff_eq.mpr h
      simp only [List.lookup, hb, if_pos h]
    · have hb : (g == f) = false := beq_eq_false_iff_ne.mpr h
      simp only [List.lookup, hb, if_neg h]
  | (k, x) :: r => by
    have ih := lookup_putF f g v r
    rw [show putF f v ((k, x) :: r) = (if k = f then (k, v) :: r else (k, x) :: putF f v r) from rfl]
    by_cases hk : k = f
    · rw [if_pos hk]
      by_cases h : g = k
      · have hb : (g == k) = true := beq_iff_eq.mpr h
        simp only [List.lookup, hb, if_pos (h.trans hk)]
      · have hb : (g == k) = false := beq_eq_false_iff_ne.mpr h
        simp only [List.lookup, hb, if_neg (fun e : g = f => h (e.trans hk.symm))]
    · rw [if_neg hk]
      by_cases h : g = k
      · have hb : (g == k) = true := beq_iff_eq.mpr h
        simp only [List.lookup, hb, if_neg (fun e : g = f => hk (h.symm.trans e))]
      · have hb : (g == k) = false := beq_eq_false_iff_ne.mpr h
        simp only [List.lookup, hb]
        exact ih
theorem keys_putF (f : Str) (v : V) : ∀ fs : List (Str × V), f ∈ (putF f v fs).map (·.1) ∧ ∀ g, g ∈ fs.map (·.1) → g ∈ (putF f v fs).map (·.1)
  | [] => ⟨by simp [putF], fun g h => by simp at h⟩
  | (k, x) :: r => by
    obtain ⟨i1, i2⟩ := keys_putF f v r
    rw [show putF f v ((k, x) :: r) = (if k = f then (k, v) :: r else (k, x) :: putF f v r) from rfl]
    by_cases hk : k = f
    · rw [if_pos hk]
      subst hk
      exact ⟨by simp, fun g h => by simpa using h⟩
    · rw [if_neg hk]
      refine ⟨?_, fun g h => ?_⟩
      · rw [List.map_cons]
        exact List.mem_cons_of_mem _ i1
      · rw [List.map_cons] at h ⊢
        rcases List.mem_cons.mp h with e | e
        · exact List.mem_cons.mpr (.inl e)
        · exact List.mem_cons_of_mem _ (i2 g e)
theorem length_putF (f : Str) (v : V) : ∀ fs : List (Str × V), (putF f v fs).length ≤ fs.length + 1
  | [] => by simp [putF]
  | (k, x) :: r => by
    have ih := length_putF f v r
    rw [show putF f v ((k, x) :: r) = (if k = f then (k, v) :: r else (k, x) :: putF f v r) from rfl]
    by_cases hk : k = f
    · rw [if_pos hk, List.length_cons, List.length_cons]; omega
    · rw [if_neg hk, List.length_cons, List.length_cons]; omega
theorem RelO.some_of {v : V} {o : Option Value} (r : RelO (some v) o) : ∃ u, o = some u ∧ RelV v u := by
  cases o with
  | none => exact (show False from r).elim
  | some u => exact ⟨u, rfl, r⟩
theorem RelO.none_of {o : Option Value} (r : RelO none o) : o = none := by
  cases o with
  | none => rfl
  | some u => exact (show False from r).elim
theorem handed_of {v : V} {u : Value} (r : RelV v u) : PySem.W.handedIn u = true := by
  cases v with
  | non => cases (show u = Value.none from r); rfl
  | bl b => cases (show u = Value.bool b from r); rfl
  | int i => obtain ⟨t, e⟩ := (show ∃ t, u = Value.int i t from r); cases e; rfl
  | str x => obtain ⟨t, e⟩ := (show ∃ t, u = Value.str x t from r); cases e; rfl
  | byt b => obtain ⟨t, e⟩ := (show ∃ t, u = Value.bytes b t from r); cases e; rfl
  | flt b => obtain ⟨t, e⟩ := (show ∃ t, u = Value.float b t from r); cases e; rfl
  | ref a => cases (show u = Value.ref a from r); rfl
  | ty n => cases (show u = Value.type n from r); rfl
section
variable {P : Program} {w : World} {H H' : Hp} {h h' : Heap} {a C dx : Addr} {fs fs' : List (Str × V)}
theorem ins_get (hok : HOk P w H h) (e : H a = some (.ins C dx fs)) : ∃ mA, ObjM h a dx C mA ∧ (∀ f, RelO (fs.lookup f) (mA f)) ∧ PySem.Within mA (fs.map (·.1)) ∧ fs.length ≤ 1000 ∧ H dx = some (.own a) := by
  obtain ⟨d, z, ne, ob, mA, n, r, q⟩ := (show ObjOk P w H h a (.ins C dx fs) from hok a _ e)
  exact ⟨mA, ⟨ob, n, ne⟩, r, q, z, d⟩
end
structure Cls (K : PySem.W.Frag) (C : Addr) : Prop where
  pg : PySem.W.plainGet K C Str.empty = true
  hd : PySem.W.hasDictIn K C = true
  po : PySem.W.plainOver K C = true
  sa : PySem.W.findIn K (.ref C) "__setattr__" = some (some (.builtin "object.__setattr__"))
theorem Cls.get {K : PySem.W.Frag} {C : Addr} (c : Cls K C) (f : Str) : PySem.W.plainGet K C f = true := c.pg
noncomputable def NoAttr (K : PySem.W.Frag) (C : Addr) (f : Str) : Prop := PySem.W.findIn K (.ref C) f = some none
theorem NoAttr.taker {K : PySem.W.Frag} {C : Addr} {f : Str} (n : NoAttr K C f) : PySem.W.takerIn K C f = some none := by
  unfold PySem.W.takerIn
  rw [show PySem.W.findIn K (.ref C) f = some none from n]
  rfl
structure Meth (K : PySem.W.Frag) (C : Addr) (m : Str) (f : Addr) : Prop where
  at_ : PySem.W.findIn K (.ref C) m = some (some (.ref f))
  fn : PySem.W.isFn K (.ref f) = true
  kp : PySem.W.keepIn K (.ref f) = true
section
variable {X : Cx} {pins : List (Addr × Obj)} {σ : St} {H : Hp} {s : Shared} {a C dx : Addr} {fs : List (Str × V)} {f : Str} {v : V} {A : Around} {E : Value → Shared → Prop}
theorem getattr_ok {b : Bool} {Q : Value → Shared → Prop} (I : Inv X pins σ H s) (e : H a = some (.ins C dx fs)) (c : Cls X.K C) (n : NoAttr X.K C f) (l : fs.lookup f = some v)
    (h : ∀ u s', Inv X pins σ H s' → RelV v u → Q u s') : wpAny (model X.prog X.w) A (getAttr (.ref a) f b) Q E s := by
  obtain ⟨mA, O, r, _, _, _⟩ := ins_get I.hok e
  obtain ⟨u, hu, ru⟩ := RelO.some_of (v := v) (o := mA f) (by rw [← l]; exact r f)
  exact get_map I.kIn O (c.get f) c.hd n hu (handed_of ru) (h u _ (I.tok _) ru)
theorem getmeth_ok {m : Str} {g : Addr} {pl : Sem Bool} {Q : Value × List Value → Shared → Prop} (I : Inv X pins σ H s) (e : H a = some (.ins C dx fs)) (c : Cls X.K C) (k : Meth X.K C m g) (l : fs.lookup m = none)
    (h : Q (.ref g, [.ref a]) s) : wpAny (model X.prog X.w) A (getMethod (.ref a) m pl) Q E s := by
  obtain ⟨mA, O, r, _, _, _⟩ := ins_get I.hok e
  have hn : mA m = none := RelO.none_of (by rw [← l]; exact r m)
  exact get_meth I.kIn O (c.get m) k.at_ k.fn hn h
theorem setattr_ok {y : V} {u : Value} {Q : Unit → Shared → Prop} (I : Inv X pins σ H s) (e : H a = some (.ins C dx fs)) (c : Cls X.K C) (n : NoAttr X.K C f) (hl : fs.length < 1000) (ry : RelV y u)
    (h : ∀ s', Inv X pins σ (upd H a (.ins C dx (putF f y fs))) s' → Q () s') : wpAny (model X.prog X.w) A (setAttr (.ref a) f u) Q E s := by
  obtain ⟨mA, O, r, wi, _, ho⟩ := ins_get I.hok e
  have hz : (fs.map (·.1)).length ≤ sizeLine := by rw [List.length_map, sizeLine_eq]; omega
  refine set_map I.kIn O c.sa c.po n.taker c.hd wi hz fun h' O' sb => h _ ?_
  have hd : ∃ o, h'.get? dx = some o := let ⟨o, _, _, e', _⟩ := O'.ns; ⟨o, e'⟩
  refine I.write (x := a) (e := dx) (by rw [e]; exact True.intro) (.inr ho) (fun b q hb z => (sb.2 b hb).trans z) hd ?_
  refine ⟨by rw [upd_ne O.ne]; exact ho, ?_, O.ne, O'.obj, _, O'.ns, fun g => ?_, fun g hg => ?_⟩
  · have := length_putF f y fs; omega
  · show RelO ((putF f y fs).lookup g) (if g = f then some u else mA g)
    rw [lookup_putF]
    by_cases q : g = f
    · rw [if_pos q, if_pos q]; exact ry
    · rw [if_neg q, if_neg q]; exact r g
  · by_cases q : g = f
    · rw [q]; exact (keys_putF f y fs).1
    · refine (keys_putF f y fs).2 g (wi g fun z => hg ?_)
      show (if g = f then some u else mA g) = none
      rw [if_neg q]; exact z
theorem Inv.made (I : Inv X pins σ H s) : Inv X pins σ (upd (upd H s.heap.objs.size (.own (s.heap.objs.size + 1))) (s.heap.objs.size + 1) (.ins C s.heap.objs.size []))
    { s with heap := (s.heap.push PySem.W.emptyDict).push (PySem.W.instObj C s.heap.objs.size) } := by
  have e1 : (s.heap.push PySem.W.emptyDict).get? s.heap.objs.size = some PySem.W.emptyDict := Heap.get?_push_size s.heap rfl
  have e2 : ((s.heap.push PySem.W.emptyDict).push (PySem.W.instObj C s.heap.objs.size)).get? (s.heap.objs.size + 1) = some (PySem.W.instObj C s.heap.objs.size) := by
    have := Heap.get?_push_size (s.heap.push PySem.W.emptyDict) (o := PySem.W.instObj C s.heap.objs.size) rfl
    rwa [Heap.size_push] at this
  have e3 : (s.heap.push PySem.W.emptyDict).Ns s.heap.objs.size (fun _ => none) := ⟨PySem.W.emptyDict, #[], _, e1, rfl, (fun e he => absurd he (by simp)), fun _ => rfl⟩
  have I1 := I.laid (a := s.heap.objs.size) (o := .own (s.heap.objs.size + 1)) (h' := s.heap.push PySem.W.emptyDict) (t' := s.toks) (fun b u q => Heap.get?_push_of_some _ q) (Nat.le_refl _) ⟨_, e1⟩
  refine I1.laid (a := s.heap.objs.size + 1) (o := .ins C s.heap.objs.size []) (t' := s.toks) (fun b u q => Heap.get?_push_of_some _ q) (Nat.le_of_eq (Heap.size_push _ _)) ?_
  have ne : s.heap.objs.size ≠ s.heap.objs.size + 1 := Nat.ne_of_lt (Nat.lt_succ_self _)
  refine ⟨by rw [upd_ne ne, upd_same], Nat.zero_le _, ne, e2, fun _ => none, (Heap.Ns1.of_empty e3).at fun o q => Heap.get?_push_of_some _ q, fun _ => True.intro, fun y hy => absurd rfl hy⟩
theorem attr_of {prog : Program} {w : World} {env : Env} {e : Expr} {f : Str} {pos : Pos} {s : Shared} {Q : Value → Shared → Prop} (hb : attributeBase e f env (eval e env) = eval e env)
    (h : wpAny (model prog w) A (eval e env) (fun o s₁ => wpAny (model prog w) A (getAttr o f true) Q E s₁) E s) : wpAny (model prog w) A (eval (.Attribute e f pos) env) Q E s :=
  Attribute_any_ h (by rw [arm_eval_Attribute, hb])
end
noncomputable def tFld (K : PySem.W.Frag) (ta : TE) (f : Str) : TE := fun σ H Q => ta σ H fun x H1 => ∃ a C dx fs v, x = .ref a ∧ H1 a = some (.ins C dx fs) ∧ Cls K C ∧ NoAttr K C f ∧ fs.lookup f = some v ∧ Q v H1
noncomputable def sFld (K : PySem.W.Frag) (ta tv : TE) (f : Str) : TS := fun D σ H => tv σ H fun y H1 => ta σ H1 fun x H2 => ∃ a C dx fs, x = .ref a ∧ H2 a = some (.ins C dx fs) ∧ Cls K C ∧ NoAttr K C f ∧ fs.length < 1000 ∧
  D.nx σ (upd H2 a (.ins C dx (putF f y fs)))
noncomputable def InOp (X : Cx) (op : Operator) (rd : V → V → Hp → VK → Prop) : Prop :=
  ∀ (pins : List (Addr × Obj)) (s : Shared) (σ : St) (H : Hp) (x y : V) (u v : Value) (Q : VK), Inv X pins σ H s → RelV x u → RelV y v → rd x y H Q → wpAny (model X.prog X.w) X.A (inplaceOp op u v) (EP X pins σ Q) X.xe s
noncomputable def sFldAug (K : PySem.W.Frag) (ta tv : TE) (rd : V → V → Hp → VK → Prop) (f : Str) : TS := fun D σ H => ta σ H fun x H1 => ∃ a C dx fs v, x = .ref a ∧ H1 a = some (.ins C dx fs) ∧ Cls K C ∧ NoAttr K C f ∧ fs.lookup f = some v ∧
  tv σ H1 fun y H2 => rd v y H2 fun z H3 => ∃ dx' fs', H3 a = some (.ins C dx' fs') ∧ fs'.length < 1000 ∧ D.nx σ (upd H3 a (.ins C dx' (putF f z fs')))
section
variable {X : Cx} {o e value : Expr} {f : Str} {pos pos' tpos : Pos} {ta tv : TE}
theorem pe_fld (he : PE X e ta) (hb : attributeBase e f X.env (eval e X.env) = eval e X.env) : PE X (.Attribute e f pos) (tFld X.K ta f) := by
  intro pins s σ H Q I h
  refine attr_of hb (thn (he pins s σ H _ I h) fun u s1 ⟨x, H1, I1, rx, a, C, dx, fs, v, ex, ea, c, n, l, q⟩ => ?_)
  subst ex
  obtain rfl : u = Value.ref a := rx
  exact getattr_ok I1 ea c n l fun u' s2 I2 ru => ⟨v, H1, I2, ru, q⟩
theorem ps_fld (ha : PE X o ta) (hv : PE X value tv) (hs : swapsWith value (some (.Attribute o f pos')) pos.line X.env = pure false) : PS X (.Assign [.Attribute o f pos'] value pos) (sFld X.K ta tv f) := by
  intro pins s σ H D I h
  refine plainObj_wpAny_Assign_Attribute (thn (hv pins s σ H _ I h) fun u s1 ⟨y, H1, I1, ry, q⟩ => thn (ha pins s1 σ H1 _ I1 q) fun ov s2 ⟨x, H2, I2, rx, a, C, dx, fs, ex, ea, c, n, l, q2⟩ => ?_) hs
  subst ex
  obtain rfl : ov = Value.ref a := rx
  exact setattr_ok I2 ea c n l ry fun s3 I3 => ⟨σ, _, I3, q2⟩
theorem ps_fldaug {op : Operator} {rd : V → V → Hp → VK → Prop} (ha : PE X o ta) (hv : PE X value tv) (hop : InOp X op rd) : PS X (.AugAssign (.Attribute o f tpos) op value pos) (sFldAug X.K ta tv rd f) := by
  intro pins s σ H D I h
  refine wpAny_AugAssign_AttributeAny (thn (ha pins s σ H _ I h) fun ov s1 ⟨x, H1, I1, rx, a, C, dx, fs, v, ex, ea, c, n, l, q⟩ => ?_)
  subst ex
  obtain rfl : ov = Value.ref a := rx
  refine getattr_ok I1 ea c n l fun u s2 I2 ru => thn (hv pins s2 σ H1 _ I2 q) fun w3 s3 ⟨y, H2, I3, ry, q3⟩ => thn (hop pins s3 σ H2 v y u w3 _ I3 ru ry q3) fun w4 s4 ⟨z, H3, I4, rz, dx', fs', ea', l', q4⟩ => ?_
  exact setattr_ok I4 ea' c n l' rz fun s5 I5 => ⟨σ, _, I5, q4⟩
noncomputable def rAdd : V → V → Hp → VK → Prop := fun x y H Q => ∃ i j, x = .int i ∧ y = .int j ∧ Q (.int (i + j)) H
theorem in_add : InOp X .Add rAdd := by
  rintro pins s σ H x y u v Q I rx ry ⟨i, j, rfl, rfl, q⟩
  obtain ⟨t, rfl⟩ := (show ∃ t, u = Value.int i t from rx)
  obtain ⟨t', rfl⟩ := (show ∃ t', v = Value.int j t' from ry)
  exact PyProof.Rows.iadd_int ⟨.int (i + j), H, I.tok _, ⟨_, rfl⟩, q⟩
end
section
variable {X : Cx} {pins : List (Addr × Obj)} {σ : St} {H : Hp} {s : Shared} {A : Around} {E : Value → Shared → Prop} {Q : Value → Shared → Prop} {c : Value} {b : Bool}
inductive TyOf (K : PySem.W.Frag) (H : Hp) : V → Value → Prop where
  | non : TyOf K H .non (.type "NoneType")
  | bl (x : Bool) : TyOf K H (.bl x) (.type "bool")
  | int (i : Int) : TyOf K H (.int i) (.type "int")
  | str (x : Str) : TyOf K H (.str x) (.type "str")
  | flt (x : UInt64) : TyOf K H (.flt x) (.type "float")
  | lst {a : Addr} {xs : List V} (e : H a = some (.lst xs)) : TyOf K H (.ref a) (.type "list")
  | frz {a : Addr} {o : Obj} {xs : List V} (e : H a = some (.frz o (.lst xs))) : TyOf K H (.ref a) (.type "list")
  | tup {a : Addr} {xs : List V} (e : H a = some (.tup xs)) : TyOf K H (.ref a) (.type "tuple")
  | dK {a : Addr} {kvs : List (Key × V)} (e : H a = some (.dK kvs)) : TyOf K H (.ref a) (.type "dict")
  | dT {a : Addr} {kvs : List (List Key × V)} (e : H a = some (.dT kvs)) : TyOf K H (.ref a) (.type "dict")
  | ins {a C dx : Addr} {fs : List (Str × V)} (e : H a = some (.ins C dx fs)) (cl : Cls K C) (ha : PySem.W.findIn K (.ref C) "__class__" = some (some (.builtin "object.__class__")))
      (hn : PySem.W.specialIn K (.builtin "object.__class__") "__get__" = some (some (.builtin "getset_descriptor.__get__"))) (htk : PySem.W.takesIn K (.builtin "object.__class__") = some true)
      (hm : PySem.W.mroIn K C (.type "object") = some true) : TyOf K H (.ref a) (.ref C)
theorem isinst_ok {x : V} {u t : Value} (I : Inv X pins σ H s) (rx : RelV x u) (ty : TyOf X.K H x t) (e : PySem.W.kitOne X.K t c = some b) (h : ∀ tk, Q (.bool b) { s with toks := tk }) :
    wpAny (model X.prog X.w) A (call (.builtin "isinstance") [u, c]) Q E s := by
  cases ty with
  | non => cases (show u = Value.none from rx); exact PySem.W.kia_one PySem.W.kitx_none I.kIn True.intro e (fun z => nomatch z) h
  | bl y => cases (show u = Value.bool y from rx); exact PySem.W.kia_one PySem.W.kitx_bool I.kIn True.intro e (fun z => nomatch z) h
  | int i => obtain ⟨t, q⟩ := (show ∃ t, u = Value.int i t from rx); cases q; exact PySem.W.kia_one PySem.W.kitx_int I.kIn True.intro e (fun z => nomatch z) h
  | str y => obtain ⟨t, q⟩ := (show ∃ t, u = Value.str y t from rx); cases q; exact PySem.W.kia_one PySem.W.kitx_str I.kIn True.intro e (fun z => nomatch z) h
  | flt y => obtain ⟨t, q⟩ := (show ∃ t, u = Value.float y t from rx); cases q; exact PySem.W.kia_one PySem.W.kitx_float I.kIn True.intro e (fun z => nomatch z) h
  | @lst a xs ea =>
    cases (show u = Value.ref a from rx)
    obtain ⟨_, _, n, _, h1⟩ := (show ObjOk X.prog X.w H s.heap a (.lst xs) from I.hok a _ ea)
    exact PySem.W.kia_one PySem.W.kitx_list I.kIn ⟨_, h1, rfl⟩ e (fun z => nomatch z) h
  | @frz a ob xs ea =>
    cases (show u = Value.ref a from rx)
    obtain ⟨_, _, _, n, _, h1⟩ := (show ObjOk X.prog X.w H s.heap a (.frz ob (.lst xs)) from I.hok a _ ea)
    exact PySem.W.kia_one PySem.W.kitx_list I.kIn ⟨_, h1, rfl⟩ e (fun z => nomatch z) h
  | @tup a xs ea =>
    cases (show u = Value.ref a from rx)
    obtain ⟨_, _, _, p⟩ := (show ObjOk X.prog X.w H s.heap a (.tup xs) from I.hok a _ ea)
    obtain ⟨o, h1, h2, _⟩ := p
    exact PySem.W.kia_one PySem.W.kitx_tuple I.kIn ⟨o, h1, h2⟩ e (fun z => nomatch z) h
  | @dK a kvs ea =>
    cases (show u = Value.ref a from rx)
    obtain ⟨_, _, vs, _, p⟩ := (show ObjOk X.prog X.w H s.heap a (.dK kvs) from I.hok a _ ea)
    obtain ⟨o, es, ep, h1, h2, _⟩ := p
    exact PySem.W.kia_one PySem.W.kitx_dict I.kIn ⟨o, h1, h2.1⟩ e (fun z => nomatch z) h
  | @dT a kvs ea =>
    cases (show u = Value.ref a from rx)
    obtain ⟨_, _, xs, _, o, es, ep, h1, h2, _⟩ := (show ObjOk X.prog X.w H s.heap a (.dT kvs) from I.hok a _ ea)
    exact PySem.W.kia_one PySem.W.kitx_dict I.kIn ⟨o, h1, h2.1⟩ e (fun z => nomatch z) h
  | @ins a C dx fs ea cl ha hn htk hm =>
    cases (show u = Value.ref a from rx)
    obtain ⟨mA, O, _⟩ := ins_get I.hok ea
    obtain ⟨od, J, _⟩ := O.look
    exact PySem.W.kia_one (PySem.W.kitx_own (cl.get _) cl.hd ha hn htk hm) I.kIn J e (fun z => nomatch z) h
end
end L2
namespace L2
open PySem PySem.Spec PyProof.Rows
structure Room (k : Nat) (A : Around) : Prop where
  hd : A.handled = none
  dp : A.depth + 3 * k + 5 < recursionLimit
  un : A.units + 16 * k + 200 < cLine
theorem Room.mono {j k : Nat} {A : Around} (r : Room k A) (h : j ≤ k) : Room j A := ⟨r.hd, by have := r.dp; omega, by have := r.un; omega⟩
theorem Room.deeper {k : Nat} {A : Around} (r : Room (k + 1) A) (env : Env) : Room k (A.deeper env) :=
  ⟨r.hd, by have := r.dp; show A.depth + 1 + 3 * k + 5 < _; omega, by have := r.un; show A.units + 3 + 16 * k + 200 < _; omega⟩
theorem make_depth {A : Around} {C : Addr} {us : List Value} {kw : List (Str × Value)} : (A.under (.builtin "type.__call__" ⟨.ref C :: us, kw⟩)).depth = A.depth + 1 := by
  first | rfl | simp [Around.under, Code.weight, Code.isCreation, Code.isGuard, Code.isCaller, Code.frames, Code.isFrame, guardIds]
theorem make_units {A : Around} {C : Addr} {us : List Value} {kw : List (Str × Value)} : (A.under (.builtin "type.__call__" ⟨.ref C :: us, kw⟩)).units = A.units + 1 := by
  first | rfl | simp [Around.under, Code.cUnits, Code.frames, Code.isFrame]
theorem Room.make {k : Nat} {A : Around} (r : Room (k + 1) A) (C : Addr) (us : List Value) (kw : List (Str × Value)) : Room k (A.under (.builtin "type.__call__" ⟨.ref C :: us, kw⟩)) :=
  ⟨r.hd, by have := r.dp; rw [make_depth]; omega, by have := r.un; rw [make_units]; omega⟩
theorem Room.depth {k : Nat} {A : Around} (r : Room k A) : A.depth < recursionLimit := by have := r.dp; omega
theorem Room.units {k : Nat} {A : Around} (r : Room k A) : A.units + 64 < cLine := by have := r.un; omega
noncomputable def tNil : TA := fun _ H Q => Q [] H
noncomputable def tCons (ta : TE) (tr : TA) : TA := fun σ H Q => ta σ H fun x H1 => tr σ H1 fun xs H2 => Q (x :: xs) H2
section
variable {X : Cx} {e : Expr} {es : List Expr} {te : TE} {t : TA} {pos : Pos}
theorem pa_nil : PA X [] tNil := fun _ _ _ _ H Q I h => Calls.spliced_nil ⟨[], H, I, .nil, h⟩
theorem pa_cons (ha : PE X e te) (hr : PA X es t) (hs : starEach (e :: es) X.env = (false, eval e X.env) :: starEach es X.env := by rfl) : PA X (e :: es) (tCons te t) := by
  intro pos pins s σ H Q I h
  rw [hs]
  show wpAny _ _ (spliced ((false, eval e X.env) :: backTo pos (starEach es X.env))) _ _ s
  refine Calls.spliced_cons (thn (ha pins s σ H _ I h) fun u s1 ⟨x, H1, I1, r1, q1⟩ => ?_)
  exact thn (hr pos pins s1 σ H1 _ I1 q1) fun us s2 ⟨xs, H2, I2, r2, q2⟩ => ⟨x :: xs, H2, I2, .cons r1 r2, q2⟩
noncomputable def tTup (t : TA) : TE := fun σ H Q => t σ H fun xs H1 => xs.length ≤ sizeLine ∧ ∀ p, H1 p = none → Q (.ref p) (upd H1 p (.tup xs))
noncomputable def tLst (t : TA) : TE := fun σ H Q => t σ H fun xs H1 => xs.length ≤ sizeLine ∧ ∀ p, H1 p = none → Q (.ref p) (upd H1 p (.lst xs))
theorem pe_tup {x1} (h : PA X es t) : PE X (.Tuple es x1 pos) (tTup t) := by
  intro pins s σ H Q I hq
  refine wpAny_Tuple_spliced (thn (h pos pins s σ H _ I hq) fun us s1 ⟨xs, H1, I1, r, z, q⟩ => ⟨by rw [← r.length]; exact z, ?_⟩)
  have hf : H1 s1.heap.objs.size = none := I1.hok.fresh (Nat.le_refl _)
  refine ⟨.ref s1.heap.objs.size, upd H1 s1.heap.objs.size (.tup xs), I1.laid (t' := s1.toks) (fun b u e => Heap.get?_push_of_some _ e) (Nat.le_refl _) ?_, rfl, q _ hf⟩
  exact ⟨z, us, r, ⟨_, Heap.get?_push_size _ rfl, rfl, _, rfl⟩⟩
theorem pe_lst (h : PA X es t) : PE X (.List es pos) (tLst t) := by
  intro pins s σ H Q I hq
  refine wpAny_List_spliced (thn (h pos pins s σ H _ I hq) fun us s1 ⟨xs, H1, I1, r, z, q⟩ => ⟨by rw [← r.length]; exact z, ?_⟩)
  have hf : H1 s1.heap.objs.size = none := I1.hok.fresh (Nat.le_refl _)
  refine ⟨.ref s1.heap.objs.size, upd H1 s1.heap.objs.size (.lst xs), I1.laid (t' := s1.toks) (fun b u e => Heap.get?_push_of_some _ e) (Nat.le_refl _) ?_, rfl, q _ hf⟩
  exact ⟨z, us, 0, r, Heap.get?_push_size _ rfl⟩
end
noncomputable abbrev Sp := List V → Hp → VK → XK → Prop
noncomputable abbrev CXT := List Env → Hp → Shared → XK → Value → Shared → Prop
structure Env0 (P : Program) (w : World) (K : PySem.W.Frag) (mg : Str → Option Value) (base : Heap) (A : Around) (outer : List Env) (s : Shared) (H : Hp) : Prop where
  frames : A.frames = some outer
  mod : Mod K mg base
  bs : ∀ b o, base.get? b = some o → s.heap.get? b = some o ∧ H b = none
  bsz : base.objs.size ≤ s.heap.objs.size
  funs : s.heap.FunFrames base outer
  frf : ∀ b ∈ frs outer, H b = none
  hok : HOk P w H s.heap
  bare : AllBare s.gens
noncomputable def CE (outer : List Env) (P : Program) (w : World) (H : Hp) (s : Shared) (Q : VK) (u : Value) (s' : Shared) : Prop :=
  ∃ v H', s'.os = s.os ∧ AllBare s'.gens ∧ Un (frs outer) [] H H' s.heap s'.heap ∧ HOk P w H' s'.heap ∧ RelV v u ∧ Q v H'
noncomputable def CR (CX : CXT) (outer : List Env) (P : Program) (w : World) (H : Hp) (s : Shared) (Q : VK) (E : XK) (r : Result) (s' : Shared) : Prop :=
  match r with
  | .ok (.ret u) => CE outer P w H s Q u s'
  | .ok _ => False
  | .error e => CX outer H s E e s'
structure FnOk (P : Program) (w : World) (K : PySem.W.Frag) (mg : Str → Option Value) (base : Heap) (CX : CXT) (k : Nat) (f : Addr) (fd : FuncData) (ps : List Str) (sp : Sp) : Prop where
  len : ∀ vs H Q E, sp vs H Q E → vs.length = ps.length
  run : ∀ (A : Around) (outer : List Env) (s : Shared) (H : Hp) (args : Args) (us : List Value) (vs : List V) (Q : VK) (E : XK), Room k A → Env0 P w K mg base A outer s H → BindsTo s fd args (ps.zip us) → Vals vs us → sp vs H Q E →
    codeAny (model P w) A (.call (.ref f) args) (CR CX outer P w H s Q E) s
theorem Env0.make {P : Program} {w : World} {K : PySem.W.Frag} {mg : Str → Option Value} {base : Heap} {A : Around} {outer : List Env} {s : Shared} {H : Hp} (e : Env0 P w K mg base A outer s H) (C : Addr) (us : List Value) (kw : List (Str × Value)) :
    Env0 P w K mg base (A.under (.builtin "type.__call__" ⟨.ref C :: us, kw⟩)) outer s H := ⟨by first | exact e.frames | (simpa [Around.under, Code.envs, Code.isFrame, pushEnvs] using e.frames), e.mod, e.bs, e.bsz, e.funs, e.frf, e.hok, e.bare⟩
section
variable {X : Cx} {pins : List (Addr × Obj)} {σ : St} {H : Hp} {s s' : Shared}
theorem Inv.env0 (I : Inv X pins σ H s) : Env0 X.prog X.w X.K X.mg X.base X.A X.stack s H :=
  ⟨I.ok.frames, I.ok.mod, I.bs, Nat.le_trans I.ok.bsz I.sz, I.stack, I.stkFree, I.hok, I.bare⟩
theorem Inv.after {Q : VK} {u : Value} (I : Inv X pins σ H s) (h : CE X.stack X.prog X.w H s Q u s') : EP X pins σ Q u s' := by
  obtain ⟨v, H', os, bare, un, hok, r, q⟩ := h
  obtain ⟨hh, g, d, t, os'⟩ := s'
  obtain rfl : os' = s.os := os
  exact ⟨v, H', I.call (h' := hh) (g' := g) (d' := d) (t' := t) (ch := []) un hok bare (fun b z => absurd z (by simp)), r, q⟩
end
noncomputable def tCall (sp : Sp) (dvs : List V) (E : XK) (t : TA) : TE := fun σ H Q => t σ H fun vs H1 => sp (vs ++ dvs) H1 Q E
noncomputable def tMeth (C : Addr) (m : Str) (sp : Sp) (dvs : List V) (E : XK) (ta : TE) (t : TA) : TE := fun σ H Q => ta σ H fun x H1 => ∃ a dx fs, x = .ref a ∧ H1 a = some (.ins C dx fs) ∧ fs.lookup m = none ∧
  t σ H1 fun vs H2 => sp (x :: (vs ++ dvs)) H2 Q E
noncomputable def tMake (C : Addr) (sp : Sp) (dvs : List V) (E : XK) (t : TA) : TE := fun σ H Q => t σ H fun vs H1 => ∀ x dx, H1 x = none → H1 dx = none → dx ≠ x →
  sp (.ref x :: (vs ++ dvs)) (upd (upd H1 dx (.own x)) x (.ins C dx [])) (fun v H2 => v = .non ∧ Q (.ref x) H2) E
noncomputable def Binds (K : PySem.W.Frag) (fd : FuncData) (ps : List Str) (ds : List Value) : Prop :=
  ∀ (s : Shared) (us : List Value), K.In s.heap → (us ++ ds).length = ps.length → BindsTo s fd ⟨us, []⟩ (ps.zip (us ++ ds))
theorem Binds.all {K : PySem.W.Frag} {fd : FuncData} {ps : List Str} (h : ∀ us : List Value, us.length = ps.length → bindArgs fd ⟨us, []⟩ = pure (ps.zip us)) : Binds K fd ps [] := fun s us _ hl => by
  rw [List.append_nil] at hl ⊢
  exact .of_eq (h us hl)
noncomputable def Passes (CX : CXT) (X : Cx) (E : XK) : Prop := ∀ (pins : List (Addr × Obj)) (σ : St) (H : Hp) (s : Shared) (e : Value) (s' : Shared), Inv X pins σ H s → CX X.stack H s E e s' → X.xe e s'
section
variable {X : Cx} {CX : CXT} {k : Nat} {f C : Addr} {fd : FuncData} {ps : List Str} {sp : Sp} {dvs : List V} {ds : List Value} {E : XK} {x m : Str} {p pos apos : Pos} {e o : Expr} {es : List Expr} {ta : TE} {t : TA}
theorem run_fn {pins : List (Addr × Obj)} {σ : St} {H : Hp} {s : Shared} {Q : VK} {us : List Value} {vs : List V} (F : FnOk X.prog X.w X.K X.mg X.base CX k f fd ps sp) (hr : Room k X.A) (hb : Binds X.K fd ps ds) (hd : Vals dvs ds) (hx : Passes CX X E)
    (I : Inv X pins σ H s) (r : Vals vs us) (h : sp (vs ++ dvs) H Q E) : wpAny (model X.prog X.w) X.A (call (.ref f) us) (EP X pins σ Q) X.xe s := by
  have r2 : Vals (vs ++ dvs) (us ++ ds) := r.append hd
  have hl : (us ++ ds).length = ps.length := by rw [← r2.length]; exact F.len _ _ _ _ h
  refine wpAny_call (codeAny_mono (F.run X.A X.stack s H ⟨us, []⟩ (us ++ ds) (vs ++ dvs) Q E hr I.env0 (hb s us I.kIn hl) r2 h) fun r s' hq => ?_)
  cases r with
  | error e => exact hx pins σ H s e s' I hq
  | ok fl =>
    cases fl with
    | ret u => exact I.after hq
    | next => exact False.elim hq
    | brk => exact False.elim hq
    | cont => exact False.elim hq
theorem pe_call (F : FnOk X.prog X.w X.K X.mg X.base CX k f fd ps sp) (hr : Room k X.A) (hg : Gl X x) (hm : X.mg x = some (.ref f)) (hk : PySem.W.keepIn X.K (.ref f) = true) (hb : Binds X.K fd ps ds) (hd : Vals dvs ds) (hx : Passes CX X E)
    (ha : PA X (e :: es) t) (hdb : (x == ("__debug__" : Str)) = false := by decide) (he : starEach (e :: es) X.env = (false, eval e X.env) :: starEach es X.env := by rfl) (hpl : (backTo pos (starEach es X.env)).any (·.1) = false := by rfl) :
    PE X (.Call (.Name x p) (e :: es) [] pos) (tCall sp dvs E t) := by
  intro pins s σ H Q I h
  refine wpAny_Call_Name_kw (ld_glob I hg hm ?_ hdb)
  refine PySem.W.callWith_K (h₀ := X.base) I.ok.mod.kin hk (thn (ha pos pins s σ H _ I h) fun us s1 ⟨vs, H1, I1, r, q⟩ => ⟨I1.kIn, ?_⟩) he hpl
  exact run_fn F hr hb hd hx I1 r q
theorem pe_meth {pl : Sem Bool} (he : PE X o ta) (c : Cls X.K C) (hm : Meth X.K C m f) (F : FnOk X.prog X.w X.K X.mg X.base CX k f fd ps sp) (hr : Room k X.A) (hb : Binds X.K fd ps ds) (hd : Vals dvs ds) (hx : Passes CX X E) (ha : PA X (e :: es) t)
    (hst : starEach (e :: es) X.env = (false, eval e X.env) :: starEach es X.env := by rfl) (hpl : (backTo pos (starEach es X.env)).any (·.1) = false := by rfl)
    (ht : eval (.Call (.Attribute o m apos) (e :: es) [] pos) X.env = (do
      let ov ← eval o X.env
      standAt apos.atName
      let (f, first) ← holding [ov] (getMethod ov m pl)
      callWith pos f first (backTo pos (starEach (e :: es) X.env)) (backToKw pos (keywordEach [] X.env))) := by rfl) :
    PE X (.Call (.Attribute o m apos) (e :: es) [] pos) (tMeth C m sp dvs E ta t) := by
  intro pins s σ H Q I h
  refine PySem.W.methodCall_KW (pl := pl) (thn (he pins s σ H _ I h) fun u s1 ⟨x, H1, I1, rx, a, dx, fs, ex, ea, l, q⟩ => ?_) ht
  subst ex
  obtain rfl : u = Value.ref a := rx
  refine getmeth_ok I1 ea c hm l ?_
  refine PySem.W.callWith_K (first := [.ref a]) (h₀ := X.base) I.ok.mod.kin hm.kp (thn (ha pos pins s1 σ H1 _ I1 q) fun us s2 ⟨vs, H2, I2, r, q2⟩ => ⟨I2.kIn, ?_⟩) hst hpl
  exact run_fn (us := .ref a :: us) (vs := .ref a :: vs) F hr hb hd hx I2 (.cons rfl r) q2
theorem pe_meth0 {pl : Sem Bool} (he : PE X o ta) (c : Cls X.K C) (hm : Meth X.K C m f) (F : FnOk X.prog X.w X.K X.mg X.base CX k f fd ps sp) (hr : Room k X.A) (hb : Binds X.K fd ps ds) (hd : Vals dvs ds) (hx : Passes CX X E)
    (ht : eval (.Call (.Attribute o m apos) [] [] pos) X.env = (do
      let ov ← eval o X.env
      standAt apos.atName
      let (f, first) ← holding [ov] (getMethod ov m pl)
      callWith pos f first (backTo pos (starEach [] X.env)) (backToKw pos (keywordEach [] X.env))) := by rfl) :
    PE X (.Call (.Attribute o m apos) [] [] pos) (tMeth C m sp dvs E ta tNil) := by
  intro pins s σ H Q I h
  refine PySem.W.methodCall_KW (pl := pl) (thn (he pins s σ H _ I h) fun u s1 ⟨x, H1, I1, rx, a, dx, fs, ex, ea, l, q⟩ => ?_) ht
  subst ex
  obtain rfl : u = Value.ref a := rx
  refine getmeth_ok I1 ea c hm l ?_
  exact PySem.W.callWith_K0 (first := [.ref a]) I1.kIn hm.kp (run_fn (us := [.ref a]) (vs := [.ref a]) F hr hb hd hx I1 (.cons rfl .nil) q)
structure Mk (K : PySem.W.Frag) (C f : Addr) : Prop where
  makes : PySem.W.makesIn K C = true
  init : PySem.W.findIn K (.ref C) "__init__" = some (some (.ref f))
  fn : PySem.W.isFn K (.ref f) = true
  kp : PySem.W.keepIn K (.ref C) = true
theorem run_make {pins : List (Addr × Obj)} {σ : St} {H : Hp} {s : Shared} {Q : VK} {us : List Value} {vs : List V} (M : Mk X.K C f) (F : FnOk X.prog X.w X.K X.mg X.base CX k f fd ps sp) (hr : Room (k + 1) X.A) (hb : Binds X.K fd ps ds) (hd : Vals dvs ds)
    (hx : Passes CX X E) (I : Inv X pins σ H s) (r : Vals vs us)
    (h : ∀ x dx, H x = none → H dx = none → dx ≠ x → sp (.ref x :: (vs ++ dvs)) (upd (upd H dx (.own x)) x (.ins C dx [])) (fun v H2 => v = .non ∧ Q (.ref x) H2) E) :
    wpAny (model X.prog X.w) X.A (call (.ref C) us) (EP X pins σ Q) X.xe s := by
  have hq := h (s.heap.objs.size + 1) s.heap.objs.size (I.hok.fresh (Nat.le_succ _)) (I.hok.fresh (Nat.le_refl _)) (Nat.ne_of_lt (Nat.lt_succ_self _))
  have I2 := Inv.made (C := C) I
  have r2 : Vals (V.ref (s.heap.objs.size + 1) :: (vs ++ dvs)) (Value.ref (s.heap.objs.size + 1) :: (us ++ ds)) := .cons rfl (r.append hd)
  have hl : (Value.ref (s.heap.objs.size + 1) :: us ++ ds).length = ps.length := by
    have e := r2.length
    rw [F.len _ _ _ _ hq] at e
    exact e.symm
  refine wpAny_call (make_map (f := f) I.kIn M.makes M.init (beq_iff_eq.mp M.fn) (codeAny_mono (F.run _ X.stack _ _ ⟨Value.ref (s.heap.objs.size + 1) :: us, []⟩ (Value.ref (s.heap.objs.size + 1) :: (us ++ ds)) _ _ E (hr.make C us [])
    (I2.env0.make C us []) (hb _ (Value.ref (s.heap.objs.size + 1) :: us) I2.kIn hl) r2 hq) fun r s' hq' => ?_))
  cases r with
  | error e => exact hx pins σ _ _ e s' I2 hq'
  | ok fl =>
    cases fl with
    | ret u =>
      obtain ⟨v, H', I3, rv, ev, q3⟩ := I2.after hq'
      subst ev
      exact ⟨rv, ⟨V.ref (s.heap.objs.size + 1), H', I3, rfl, q3⟩⟩
    | next => exact False.elim hq'
    | brk => exact False.elim hq'
    | cont => exact False.elim hq'
theorem pe_make (M : Mk X.K C f) (F : FnOk X.prog X.w X.K X.mg X.base CX k f fd ps sp) (hr : Room (k + 1) X.A) (hg : Gl X x) (hm : X.mg x = some (.ref C)) (hb : Binds X.K fd ps ds) (hd : Vals dvs ds) (hx : Passes CX X E)
    (ha : PA X (e :: es) t) (hdb : (x == ("__debug__" : Str)) = false := by decide) (he : starEach (e :: es) X.env = (false, eval e X.env) :: starEach es X.env := by rfl) (hpl : (backTo pos (starEach es X.env)).any (·.1) = false := by rfl) :
    PE X (.Call (.Name x p) (e :: es) [] pos) (tMake C sp dvs E t) := by
  intro pins s σ H Q I h
  refine wpAny_Call_Name_kw (ld_glob I hg hm ?_ hdb)
  refine PySem.W.callWith_K (h₀ := X.base) I.ok.mod.kin M.kp (thn (ha pos pins s σ H _ I h) fun us s1 ⟨vs, H1, I1, r, q⟩ => ⟨I1.kIn, ?_⟩) he hpl
  exact run_make M F hr hb hd hx I1 r q
end
section
variable {X : Cx} {CX : CXT} {k : Nat} {f C : Addr} {fd : FuncData} {ps ks : List Str} {sp : Sp} {E : XK} {x m : Str} {p pos apos kpos : Pos} {e o : Expr} {es : List Expr} {kws : List Keyword} {te ta : TE} {t tk : TA} {nm : Option Str}
variable {g : List Value → List Value → List Value} {gV : List V → List V → List V}
end
structure FnScope (N P : List Str) (sc : Scope) : Prop where
  kind : sc.kind = .function
  co : sc.isCoroutine = false
  gen : sc.isGenerator = false
  nd : N.Nodup
  pre : N.take P.length = P
  par : ∀ x ∈ P, sc.names.lookup x = some .local ∨ sc.names.lookup x = some .cell
  nofree : ∀ y ∈ sc.names, y.2 ≠ .free
theorem bindL_out {kindOf : Str → Option NameKind} {x : Str} : ∀ {binds : List (Str × Value)} {m : Str → Option Value}, (∀ v, (x, v) ∉ binds) → bindL kindOf binds m x = m x
  | [], _, _ => rfl
  | (n, v) :: r, m, h => by
    unfold bindL
    rw [bindL_out fun w hw => h w (List.mem_cons_of_mem _ hw)]
    split
    · have : x ≠ n := by rintro rfl; exact h v List.mem_cons_self
      simp [this]
    · rfl
theorem bindC_out {kindOf : Str → Option NameKind} {x : Str} : ∀ {binds : List (Str × Value)} {m : Str → Option Value}, (∀ v, (x, v) ∉ binds) → bindC kindOf binds m x = m x
  | [], _, _ => rfl
  | (n, v) :: r, m, h => by
    unfold bindC
    rw [bindC_out fun w hw => h w (List.mem_cons_of_mem _ hw)]
    split
    · rfl
    · have : x ≠ n := by rintro rfl; exact h v List.mem_cons_self
      simp [this]
theorem bindL_get {kindOf : Str → Option NameKind} {x : Str} {v : Value} : ∀ {P : List Str} {vs : List Value} {i : Nat} {m : Str → Option Value}, P.Nodup → P[i]? = some x → vs[i]? = some v → kindOf x = some .local →
    bindL kindOf (P.zip vs) m x = some v
  | [], _, _, _, _, h, _, _ => by simp at h
  | _ :: _, [], _, _, _, _, h, _ => by simp at h
  | p :: P, w :: vs, 0, m, nd, h1, h2, hk => by
    simp at h1 h2; subst h1; subst h2
    show bindL kindOf ((p, w) :: P.zip vs) m p = _
    unfold bindL
    rw [bindL_out fun v hv => (List.nodup_cons.mp nd).1 (List.of_mem_zip hv).1, if_pos hk]
    simp
  | p :: P, w :: vs, i + 1, m, nd, h1, h2, hk => by
    show bindL kindOf ((p, w) :: P.zip vs) m x = _
    unfold bindL
    exact bindL_get (i := i) (List.nodup_cons.mp nd).2 (by simpa using h1) (by simpa using h2) hk
theorem bindC_get {kindOf : Str → Option NameKind} {x : Str} {v : Value} : ∀ {P : List Str} {vs : List Value} {i : Nat} {m : Str → Option Value}, P.Nodup → P[i]? = some x → vs[i]? = some v → kindOf x ≠ some .local →
    bindC kindOf (P.zip vs) m x = some v
  | [], _, _, _, _, h, _, _ => by simp at h
  | _ :: _, [], _, _, _, _, h, _ => by simp at h
  | p :: P, w :: vs, 0, m, nd, h1, h2, hk => by
    simp at h1 h2; subst h1; subst h2
    show bindC kindOf ((p, w) :: P.zip vs) m p = _
    unfold bindC
    rw [bindC_out fun v hv => (List.nodup_cons.mp nd).1 (List.of_mem_zip hv).1, if_neg hk]
    simp
  | p :: P, w :: vs, i + 1, m, nd, h1, h2, hk => by
    show bindC kindOf ((p, w) :: P.zip vs) m x = _
    unfold bindC
    exact bindC_get (i := i) (List.nodup_cons.mp nd).2 (by simpa using h1) (by simpa using h2) hk
noncomputable def start (N : List Str) (vs : List V) : St := vs.map some ++ List.replicate (N.length - vs.length) none
noncomputable def cxOf (CX : CXT) (P : Program) (w : World) (K : PySem.W.Frag) (mg : Str → Option Value) (base : Heap) (N : List Str) (qual : Str) (scope : Scope) (f : Addr) (cd : Value) (A : Around) (outer : List Env) (s : Shared) (H : Hp) (E : XK) : Cx where
  prog := P
  w := w
  K := K
  mg := mg
  base := base
  A := A.deeper (envOfC qual scope s.heap.objs.size f cd)
  N := N
  s₀ := s
  H₀ := H
  env := envOfC qual scope s.heap.objs.size f cd
  outer := outer
  stack := envOfC qual scope s.heap.objs.size f cd :: outer
  ex := []
  calm := true
  fn := fun _ => true
  pn := []
  xe := fun e s' => wpAny (model P w) (A.deeper (envOfC qual scope s.heap.objs.size f cd)) (leaving (envOfC qual scope s.heap.objs.size f cd) e) (fun _ s'' => CX outer H s E e s'') (fun e' s'' => CX outer H s E e' s'') s'
theorem cell_has {sc : Scope} {n : Nat} {x : Str} (h : sc.names.lookup x = some .cell) : ∃ c, (cellsFrom n sc.names []).lookup x = some c := by
  have q := PySem.W.cellsFrom_some sc.names n [] (.inl h)
  exact Option.isSome_iff_exists.mp q
theorem inv_start {CX : CXT} {P : Program} {w : World} {K : PySem.W.Frag} {mg : Str → Option Value} {base : Heap} {N ps : List Str} {qual : Str} {scope : Scope} {f : Addr} {cd : Value} {A : Around} {outer : List Env} {s s1 : Shared} {H : Hp} {E : XK} {us : List Value} {vs : List V}
    (S : FnScope N ps scope) (hd : A.handled = none) (e0 : Env0 P w K mg base A outer s H) (hl : vs.length = ps.length) (r : Vals vs us)
    (x : InCallC s s.heap.objs.size (bindL (envOfC qual scope s.heap.objs.size f cd).kindOf (ps.zip us) fun _ => none) (cellsFrom (s.heap.objs.size + 1) scope.names []) (bindC (envOfC qual scope s.heap.objs.size f cd).kindOf (ps.zip us) fun _ => none) s1) :
    Inv (cxOf CX P w K mg base N qual scope f cd A outer s H E) [] (start N vs) H s1 := by
  have hpl : ps.length ≤ N.length := by have := congrArg List.length S.pre; rw [List.length_take] at this; omega
  obtain ⟨h1, tk, rfl, hk⟩ := x.done
  have noA : ∀ b : Addr, b ∉ (cxOf CX P w K mg base N qual scope f cd A outer s H E).ex := fun b z => absurd (show b ∈ ([] : List Addr) from z) (by simp)
  refine ⟨⟨e0.mod, S.kind, rfl, rfl, Nat.le_refl _, fun y z c h1 h2 => ?_, fun y hy => ?_, fun y c _ h => ?_, fun _ => hd, Around.frames_deeper e0.frames, .inr ⟨rfl, rfl⟩, fun b z => absurd z (noA b), e0.bs, e0.bsz, fun b _ _ => noA b, fun b z => absurd z (noA b), e0.funs, e0.frf⟩,
    rfl, e0.bare, Un.kept hk, ⟨_, x.toInCall.ns, fun i y v h1 h2 h3 => ?_⟩, fun y c h => ⟨_, x.cell y c h⟩, e0.hok.fresh (Nat.le_refl _), fun y c h => ?_, fun p hp => absurd (show p ∈ ([] : List (Addr × Obj)) from hp) (by simp), e0.hok.kept hk, ?_⟩
  · exact name_of_addr x.apart (PySem.mem_of_lookup h1) (PySem.mem_of_lookup h2)
  · have hy : scope.names.lookup y = some .cell ∨ scope.names.lookup y = some .free := hy
    rcases hy with hy | hy
    · exact cell_has hy
    · exact absurd rfl (S.nofree _ (PySem.mem_of_lookup hy))
  · exact Nat.le_of_lt (x.above y c (PySem.mem_of_lookup h))
  · have hi : i < vs.length := by
      unfold start at h2
      by_cases hi : i < vs.length
      · exact hi
      · rw [List.getElem?_append_right (by simpa using hi)] at h2
        rw [List.getElem?_replicate] at h2
        split at h2 <;> cases h2
    have ha : vs[i]? = some v := by
      unfold start at h2
      rw [List.getElem?_append_left (by simpa using hi), List.getElem?_map] at h2
      cases e : vs[i]? with
      | none => rw [e] at h2; cases h2
      | some a => rw [e] at h2; cases h2; rfl
    obtain ⟨u, hu, rv⟩ := r.get ha
    have hp : ps[i]? = some y := by
      rw [← S.pre, List.getElem?_take_of_lt (by omega)]; exact h1
    have ndP : ps.Nodup := by rw [← S.pre]; exact S.nd.sublist (List.take_sublist _ _)
    refine ⟨u, rv, ?_⟩
    rcases S.par y (List.mem_of_getElem? hp) with k | k
    · exact .inl ⟨k, bindL_get ndP hp hu k⟩
    · obtain ⟨c, e⟩ := cell_has (n := s.heap.objs.size + 1) k
      refine .inr ⟨.inl k, c, e, ?_⟩
      have q := x.cell y c e
      rw [bindC_get ndP hp hu (by show scope.names.lookup y ≠ _; rw [k]; decide)] at q
      exact q
  · exact e0.hok.fresh (Nat.le_of_lt (x.above y c (PySem.mem_of_lookup h)))
  · unfold start
    show _ = N.length
    rw [List.length_append, List.length_map, List.length_replicate]
    omega
theorem fn_of {CX : CXT} {P : Program} {w : World} {K : PySem.W.Frag} {mg : Str → Option Value} {base : Heap} {k : Nat} {f : Addr} {name qual : Str} {params : Arguments} {body : List Stmt} {scope : Scope} {dV kV doc pm cdv ct oc : Value} {an od : Option Addr}
    {osl : Array (Option Value)} {N ps : List Str} {sp : Sp} (lk : K.lookup f = some ⟨oc, od, .func (PySem.W.fnOf name qual params body scope dV kV doc pm an cdv ct), osl⟩) (hcd : PySem.W.codeIn K cdv qual = true) (S : FnScope N ps scope)
    (len : ∀ vs H Q E, sp vs H Q E → vs.length = ps.length)
    (hbody : ∀ (A : Around) (outer : List Env) (s : Shared) (H : Hp) (vs : List V) (Q : VK) (E : XK), Room k (A.deeper (envOfC qual scope s.heap.objs.size f cdv)) → sp vs H Q E →
      ∃ t, PSs (cxOf CX P w K mg base N qual scope f cdv A outer s H E) body t ∧ t { nx := fun _ H' => Q .non H', rt := Q } (start N vs) H) :
    FnOk P w K mg base CX (k + 1) f (PySem.W.fnOf name qual params body scope dV kV doc pm an cdv ct) ps sp := by
  refine ⟨len, fun A outer s H args us vs Q E hr e0 hb r hsp => ?_⟩
  have hl := len _ _ _ _ hsp
  have KX : K.In s.heap := e0.mod.kin.keeps fun b o e => (e0.bs b o e).1
  have lim : s.heap.NoLimit := e0.mod.nolimit.keeps fun b o e => (e0.bs b o e).1
  have hkind : ∀ y ∈ ps.zip us, scope.names.lookup y.1 = some .local ∨ (scope.names.lookup y.1 = some .cell ∧ ((cellsFrom (s.heap.objs.size + 1) scope.names []).lookup y.1).isSome = true) := fun ⟨n, v⟩ hy => by
    rcases S.par n (List.of_mem_zip hy).1 with q | q
    · exact .inl q
    · exact .inr ⟨q, PySem.W.cellsFrom_some _ _ _ (.inl q)⟩
  refine codeAny_call_function hr.depth (KX _ _ lk) rfl S.co S.gen rfl (PySem.W.codeRec_of KX hcd) (hb _ _ _ _ ?_)
  refine wpAny_newFunctionEnv_cells S.kind hkind fun env he s1 x => ?_
  subst he
  refine ⟨lim.keeps x.toInCall.keep, codeAny_func ?_⟩
  obtain ⟨t, ht, hq⟩ := hbody A outer s H vs Q E (hr.deeper _) hsp
  have I : Inv (cxOf CX P w K mg base N qual scope f cdv A outer s H E) [] (start N vs) H s1 := inv_start S hr.hd e0 hl r x
  refine wpAny_mono (ht [] s1 (start N vs) H _ I hq) (fun fl s' hs => ?_) fun e s' hs => hs
  have fin : ∀ {σ' : St} {H' : Hp} {v : V} {u : Value}, Inv (cxOf CX P w K mg base N qual scope f cdv A outer s H E) [] σ' H' s' → RelV v u → Q v H' → CE outer P w H s Q u s' :=
    fun {σ' H' v u} J rv q => ⟨v, H', J.os, J.bare, J.base, J.hok, rv, q⟩
  cases fl with
  | ret u =>
    obtain ⟨v, σ', H', J, rv, q⟩ := hs
    exact fin J rv q
  | next =>
    obtain ⟨σ', H', J, q⟩ := hs
    exact fin (v := V.non) (u := Value.none) J rfl q
  | brk =>
    obtain ⟨_, _, _, q⟩ := hs
    exact False.elim q
  | cont =>
    obtain ⟨_, _, _, q⟩ := hs
    exact False.elim q
end L2
namespace L2
open PySem PySem.Spec PyProof.Rows
section
variable {X : Cx} {x : Str} {p pos : Pos} {e : Expr} {es : List Expr} {t : TA} {id T : String} {r : List V → Hp → VK → Prop}
noncomputable def tCB (r : List V → Hp → VK → Prop) (t : TA) : TE := fun σ H Q => t σ H fun vs H1 => r vs H1 Q
theorem pe_callB (hc : CallR X (.builtin id) r) (hg : Gl X x) (hm : X.mg x = none) (hv : bootBuiltins x = some (.builtin id)) (ha : PA X (e :: es) t) (hn : x ≠ "__name__" := by decide) (hdb : (x == ("__debug__" : Str)) = false := by decide)
    (he : starEach (e :: es) X.env = (false, eval e X.env) :: starEach es X.env := by rfl) (hpl : (backTo pos (starEach es X.env)).any (·.1) = false := by rfl) : PE X (.Call (.Name x p) (e :: es) [] pos) (tCB r t) := by
  intro pins s σ H Q I h
  refine wpAny_Call_Name_kw (ld_blt I hg hm hv ?_ hn hdb)
  exact PyProof.Rows.callWith_builtin1 (thn (ha pos pins s σ H _ I h) fun us s1 ⟨vs, H1, I1, r1, q1⟩ => hc pins s1 σ H1 vs us Q I1 r1 q1) he hpl
theorem pe_callTy (hc : CallR X (.type T) r) (hg : Gl X x) (hm : X.mg x = none) (hv : bootBuiltins x = some (.type T)) (ha : PA X (e :: es) t) (hn : x ≠ "__name__" := by decide) (hdb : (x == ("__debug__" : Str)) = false := by decide)
    (he : starEach (e :: es) X.env = (false, eval e X.env) :: starEach es X.env := by rfl) (hpl : (backTo pos (starEach es X.env)).any (·.1) = false := by rfl) : PE X (.Call (.Name x p) (e :: es) [] pos) (tCB r t) := by
  intro pins s σ H Q I h
  refine wpAny_Call_Name_kw (ld_blt I hg hm hv ?_ hn hdb)
  exact PyProof.Rows.callWith_type1 (thn (ha pos pins s σ H _ I h) fun us s1 ⟨vs, H1, I1, r1, q1⟩ => hc pins s1 σ H1 vs us Q I1 r1 q1) he hpl
end
end L2
namespace HT
open PySem PyProof.Rows
section
open PySem.SeqAt
open PySem.AutoSeq1 (wpAny_loadPart')
open PySem.MeetsSeq PySem.MeetsSeq2 PySem.MeetsSeq3
end
section
variable {prog : Program} {w : World} {A : Around} {E : Value → Shared → Prop} {s : Shared}
theorem cat_tup {t b : Addr} {vs ws : List Value} {Q : Value → Shared → Prop} (ht : IsTup s.heap t vs.toArray) (hb : IsTup s.heap b ws.toArray) (hv : vs ≠ [])
    (h1 : ws = [] → Q (.ref t) s) (h2 : ws ≠ [] → Q (.ref s.heap.objs.size) { s with heap := s.heap.push { cls := .type "tuple", data := .seq (vs ++ ws).toArray } })
    (hsz : vs.length + ws.length ≤ sizeLine) : wpAny (model prog w) A (binaryOp .Add (.ref t) (.ref b)) Q E s := by
  obtain ⟨⟨cls, dd, data, sl⟩, ho, hc, n, hd⟩ := id ht
  obtain ⟨⟨cls2, dd2, data2, sl2⟩, ho2, hc2, n2, hd2⟩ := id hb
  simp only at hc hd hc2 hd2
  subst hc hd hc2 hd2
  have e : vs.toArray ++ ws.toArray = (vs ++ ws).toArray := by simp
  by_cases hw : ws = []
  · exact concat_meets ⟨_, ho, rfl⟩ ⟨_, ho2, rfl⟩ noFill_tuple_add seq_tuple_add PySem.F.slot_tuple_add PySem.F.entry_tuple_add (PySem.F.args_tuple_add_2 _ _)
      (tuple_addW1 t b vs.toArray ws.toArray n n2 dd dd2 sl sl2 (by simpa using hv) (by simp [hw])) ⟨ho, ho2, h1 hw⟩
  · refine concat_meets ⟨_, ho, rfl⟩ ⟨_, ho2, rfl⟩ noFill_tuple_add seq_tuple_add PySem.F.slot_tuple_add PySem.F.entry_tuple_add (PySem.F.args_tuple_add_2 _ _)
      (tuple_addW2 t b vs.toArray ws.toArray n n2 dd dd2 sl sl2 (by simpa using hv) (by simpa using hw) (by rw [List.size_toArray, List.size_toArray]; exact hsz)) ⟨ho, ho2, ?_⟩
    rw [e]
    exact h2 hw
noncomputable def sIx (n d : Nat) : Option Int → Nat
  | none => d
  | some v => if v < 0 then (v + (n : Int)).toNat else min v.toNat n
theorem sIx_none (n d : Nat) : sIx n d none = d := rfl
theorem sIx_nat (n d k : Nat) : sIx n d (some (k : Int)) = min k n := by
  show (if (k : Int) < 0 then ((k : Int) + (n : Int)).toNat else min (k : Int).toNat n) = min k n
  rw [if_neg (by omega), Int.toNat_natCast]
end
end HT
namespace L2
open PySem PySem.Spec PyProof.Rows
noncomputable abbrev TO := St → Hp → (Option Int → Hp → Prop) → Prop
noncomputable def PO (X : Cx) (e : Option Expr) (t : TO) : Prop :=
  ∀ (pins : List (Addr × Obj)) (s : Shared) (σ : St) (H : Hp) (Q : Option Int → Hp → Prop), Inv X pins σ H s → t σ H Q →
    wpAny (model X.prog X.w) X.A (evalPart e X.env) (fun u s' => ∃ o H', Inv X pins σ H' s' ∧ IsPart u o ∧ Q o H') X.xe s
noncomputable def tNoPart : TO := fun _ H Q => Q none H
noncomputable def tPart (t : TE) : TO := fun σ H Q => t σ H fun x H1 => ∃ i, x = .int i ∧ Q (some i) H1
section
variable {X : Cx} {e : Expr} {te : TE} {lo hi : Option Expr} {tl th : TO} {pos p2 : Pos}
theorem po_none : PO X none tNoPart := by
  intro pins s σ H Q I h
  rw [evalPart_none]
  exact wpAny_pure ⟨none, H, I, .none, h⟩
theorem po_some (h : PE X e te) : PO X (some e) (tPart te) := by
  intro pins s σ H Q I hw
  rw [evalPart_some]
  refine thn (h pins s σ H _ I hw) fun u s1 ⟨x, H1, I1, r1, q1⟩ => ?_
  obtain ⟨i, rfl, q⟩ := q1
  obtain ⟨t, rfl⟩ := r1
  exact ⟨some i, H1, I1, .int i t, q⟩
noncomputable def SlR (X : Cx) (r : V → Option Int → Option Int → Hp → VK → Prop) : Prop :=
  ∀ (pins : List (Addr × Obj)) (s : Shared) (σ : St) (H : Hp) (x : V) (v vl vu : Value) (lo hi : Option Int) (sl : Addr) (Q : VK), Inv X pins σ H s → RelV x v → s.heap.IsSliceOf sl vl vu .none → IsPart vl lo → IsPart vu hi → r x lo hi H Q →
    ∃ T id, typeLookup (.type T) "__getitem__" = pure (some (.builtin id)) ∧ s.TypeIs v T ∧ wpAny (model X.prog X.w) X.A (getItem v (.ref sl)) (EP X pins σ Q) X.xe s
noncomputable def tSl (r : V → Option Int → Option Int → Hp → VK → Prop) (te : TE) (tl th : TO) : TE := fun σ H Q => te σ H fun x H1 => tl σ H1 fun l H2 => th σ H2 fun u H3 => r x l u H3 Q
theorem pe_slice {r : V → Option Int → Option Int → Hp → VK → Prop} (hr : SlR X r) (he : PE X e te) (hl : PO X lo tl) (hu : PO X hi th) : PE X (.Subscript e (.Slice lo hi none p2) pos) (tSl r te tl th) := by
  intro pins s σ H Q I h
  refine Subscript_ (thn (he pins s σ H _ I h) fun v s1 ⟨x, H1, I1, r1, q1⟩ => ?_)
  refine wpAny_Slice (thn (hl pins s1 σ H1 _ I1 q1) fun vl s2 ⟨l, H2, I2, pl, q2⟩ => thn (hu pins s2 σ H2 _ I2 q2) fun vu s3 ⟨u, H3, I3, pu, q3⟩ => ?_)
  rw [evalPart_none]
  refine wpAny_pure ?_
  have I4 : Inv X pins σ H3 { s3 with heap := s3.heap.push { cls := .type "slice", data := .fields #[vl, vu, .none] } } := I3.kept (t' := s3.toks) fun b ob q => Heap.get?_push_of_some _ q
  obtain ⟨T, id, hT, ht, hg⟩ := hr pins { s3 with heap := s3.heap.push { cls := .type "slice", data := .fields #[vl, vu, .none] } } σ H3 x v vl vu l u s3.heap.objs.size Q I4 r1 (Heap.IsSliceOf.new ..) pl pu q3
  show wpAny (model X.prog X.w) X.A (subscriptTail e (.Slice lo hi none p2) v (.ref s3.heap.objs.size)) (EP X pins σ Q) X.xe { s3 with heap := s3.heap.push { cls := .type "slice", data := .fields #[vl, vu, .none] } }
  exact tail_any (ops := [.ref s3.heap.objs.size, v]) ht hT hg (by with_unfolding_all rfl)
noncomputable def cutV (xs : List V) (lo hi : Option Int) : List V := (xs.drop (HT.sIx xs.length 0 lo)).take (HT.sIx xs.length xs.length hi - HT.sIx xs.length 0 lo)
theorem cutV_length (xs : List V) (lo hi : Option Int) : (cutV xs lo hi).length ≤ xs.length := by
  unfold cutV
  rw [List.length_take, List.length_drop]
  omega
noncomputable def rCatT (K : PySem.W.Frag) : R2 := fun x y H Q => ∃ a b xs ys, x = .ref a ∧ y = .ref b ∧ SqT K H a xs ∧ SqT K H b ys ∧ xs ≠ [] ∧ xs.length + ys.length ≤ sizeLine ∧
  (ys = [] → Q (.ref a) H) ∧ (ys ≠ [] → ∀ p, H p = none → Q (.ref p) (upd H p (.tup (xs ++ ys))))
theorem Vals.nil_iff {xs : List V} {us : List Value} (r : Vals xs us) : us = [] ↔ xs = [] := by
  cases r with
  | nil => simp
  | cons _ _ => simp
theorem op_catT : OpR X (binaryOp .Add) (rCatT X.K) := by
  intro pins s σ H x y v u Q I rx ry h
  obtain ⟨a, b, xs, ys, rfl, rfl, ha, hb, hx, hz, q1, q2⟩ := h
  cases rx
  cases ry
  obtain ⟨its, r1, p1, _⟩ := I.tuple ha
  obtain ⟨its2, r2, p2, _⟩ := I.tuple hb
  refine HT.cat_tup p1 p2 (fun z => hx (r1.nil_iff.mp z)) (fun z => ⟨.ref a, H, I, rfl, q1 (r2.nil_iff.mp z)⟩) (fun z => ?_) (by rw [← r1.length, ← r2.length]; exact hz)
  refine ⟨.ref s.heap.objs.size, _, I.laid (t' := s.toks) (o := .tup (xs ++ ys)) (fun b ob q => Heap.get?_push_of_some _ q) (Nat.le_refl _) ?_, rfl, q2 (fun w => z (r2.nil_iff.mpr w)) _ (I.hok.fresh (Nat.le_refl _))⟩
  exact ⟨by rw [List.length_append]; exact hz, _, r1.append r2, IsTup.new _ _⟩
end
end L2
namespace L2
open PySem PySem.Spec PyProof.Rows
noncomputable def ixN (n : Nat) (i : Int) : Option Nat := if 0 ≤ i then (if i < n then some i.toNat else none) else if -(n : Int) ≤ i then some (i + n).toNat else none
noncomputable def atI {α : Type} (xs : List α) (i : Int) : Option α := (ixN xs.length i).bind fun j => xs[j]?
theorem ixN_seq {n : Nat} {i : Int} {j : Nat} (h : ixN n i = some j) : seqIndex? i n = some j ∧ j < n ∧ -(n : Int) ≤ i ∧ i < n := by
  unfold ixN at h
  by_cases h0 : 0 ≤ i
  · rw [if_pos h0] at h
    by_cases h1 : i < n
    · rw [if_pos h1] at h
      have e : i.toNat = j := Option.some.inj h
      exact ⟨by rw [seqIndex_of h0 h1, e], by omega, by omega, h1⟩
    · rw [if_neg h1] at h; cases h
  · rw [if_neg h0] at h
    by_cases h1 : -(n : Int) ≤ i
    · rw [if_pos h1] at h
      have e : (i + n).toNat = j := Option.some.inj h
      exact ⟨by rw [seqIndex_neg (by omega) h1, e], by omega, h1, by omega⟩
    · rw [if_neg h1] at h; cases h
theorem atI_get {α : Type} {xs : List α} {i : Int} {v : α} (h : atI xs i = some v) : ∃ j, seqIndex? i xs.length = some j ∧ xs[j]? = some v ∧ j < xs.length ∧ -(xs.length : Int) ≤ i ∧ i < xs.length := by
  unfold atI at h
  cases e : ixN xs.length i with
  | none => rw [e] at h; cases h
  | some j =>
    rw [e] at h
    obtain ⟨h1, h2, h3, h4⟩ := ixN_seq e
    exact ⟨j, h1, h, h2, h3, h4⟩
theorem atI_nat {α : Type} {xs : List α} {j : Nat} {v : α} (h : xs[j]? = some v) : atI xs (j : Int) = some v := by
  have hj : j < xs.length := (List.getElem?_eq_some_iff.mp h).1
  have e : ixN xs.length (j : Int) = some j := by
    unfold ixN
    rw [if_pos (by omega), if_pos (by omega)]; simp
  unfold atI; rw [e]; exact h
noncomputable def PlainIx (b : Expr) : Prop := ∀ o i, subscripted b false o i = operate [o, i] (getItem o i)
noncomputable def IxR (X : Cx) (r : R2) : Prop :=
  ∀ (value slice : Expr) (pins : List (Addr × Obj)) (s : Shared) (σ : St) (H : Hp) (x y : V) (v u : Value) (Q : VK), Inv X pins σ H s → RelV x v → RelV y u → r x y H Q →
    subscripted slice false v u = operate [v, u] (getItem v u) → wpAny (model X.prog X.w) X.A (subscriptTail value slice v u) (EP X pins σ Q) X.xe s
noncomputable def MtR (X : Cx) (id : String) (r : V → List V → Hp → VK → Prop) : Prop :=
  ∀ (pins : List (Addr × Obj)) (s : Shared) (σ : St) (H : Hp) (x : V) (xs : List V) (v : Value) (us : List Value) (Q : VK), Inv X pins σ H s → RelV x v → Vals xs us → r x xs H Q →
    wpAny (model X.prog X.w) X.A (call (.builtin id) (v :: us)) (EP X pins σ Q) X.xe s
section
variable {X : Cx} {a b : Expr} {ta tb : TE} {pos : Pos}
theorem pe_ix {r : R2} (hr : IxR X r) (ha : PE X a ta) (hb : PE X b tb) (hs : PlainIx b) : PE X (.Subscript a b pos) (tOp r ta tb) := by
  intro pins s σ H Q I h
  exact Subscript_ (binT ha hb I h fun v u s2 x y H2 I2 rx ry q => hr a b pins s2 σ H2 x y v u Q I2 rx ry q (hs _ _))
noncomputable def rIxL (K : PySem.W.Frag) : R2 := fun x y H Q => ∃ p xs i v, x = .ref p ∧ y = .int i ∧ SqL K H p xs ∧ atI xs i = some v ∧ Q v H
noncomputable def rIxT (K : PySem.W.Frag) : R2 := fun x y H Q => ∃ p xs i v, x = .ref p ∧ y = .int i ∧ SqT K H p xs ∧ atI xs i = some v ∧ Q v H
noncomputable def rIxS : R2 := fun x y H Q => ∃ z i c, x = .str z ∧ y = .int i ∧ z.length ≤ sizeLine ∧ atI z.cps.toList i = some c ∧ Q (.str ⟨#[c]⟩) H
theorem ix_list : IxR X (rIxL X.K) := by
  intro value slice pins s σ H x y v u Q I rx ry h hs
  obtain ⟨p, xs, i, z, rfl, rfl, hq, he, q⟩ := h
  cases rx
  obtain ⟨t, rfl⟩ := ry
  obtain ⟨its, r, pl, hz⟩ := I.list hq
  obtain ⟨j, h1, h2, h3, h4, h5⟩ := atI_get he
  obtain ⟨w, ew, rw'⟩ := r.get h2
  have hl := r.length
  have hn := line63
  have fin : EP X pins σ Q w s := ⟨z, H, I, rw', q⟩
  by_cases h0 : 0 ≤ i
  · have hj : i.toNat = j := by
      rw [seqIndex_of h0 h5] at h1
      exact Option.some.inj h1
    exact item_listR pl.isList h0 (by omega) (by rw [hj]; simpa using ew) fin hs
  · have hj : (i + (its.toArray.size : Int)).toNat = j := by
      rw [seqIndex_neg (by omega) h4] at h1
      rw [List.size_toArray, ← hl]
      exact Option.some.inj h1
    exact subscriptTail_builtinR (x := w) pl.isList.typeIs slot_list_getitem.lookup
      (wpAny_getItem_list_neg (Q := fun r s' => r = w ∧ EP X pins σ Q r s') pl.isList (by omega) (by rw [List.size_toArray] <;> omega) (by omega) (by rw [hj]; simpa using ew) ⟨rfl, fin⟩) hs
theorem ix_tup : IxR X (rIxT X.K) := by
  intro value slice pins s σ H x y v u Q I rx ry h hs
  obtain ⟨p, xs, i, z, rfl, rfl, hq, he, q⟩ := h
  cases rx
  obtain ⟨t, rfl⟩ := ry
  obtain ⟨its, r, pl, hz⟩ := I.tuple hq
  obtain ⟨j, h1, h2, h3, h4, h5⟩ := atI_get he
  obtain ⟨w, ew, rw'⟩ := r.get h2
  have hl := r.length
  have hn := line63
  have fin : EP X pins σ Q w s := ⟨z, H, I, rw', q⟩
  exact subscriptTail_builtinR (x := w) pl.typeIs slot_tuple_getitem.lookup
    (getItem_tuple (j := j) (Q := fun r s' => r = w ∧ EP X pins σ Q r s') pl (by omega) (by omega) (by rw [List.size_toArray, ← hl]; exact h1) (by simpa using ew) ⟨rfl, fin⟩) hs
theorem ix_str : IxR X rIxS := by
  intro value slice pins s σ H x y v u Q I rx ry h hs
  obtain ⟨z, i, c, rfl, rfl, hz, he, q⟩ := h
  obtain ⟨t, rfl⟩ := rx
  obtain ⟨t', rfl⟩ := ry
  obtain ⟨j, h1, h2, h3, h4, h5⟩ := atI_get he
  have hl : z.cps.toList.length = z.length := by simp [Str.length]
  rw [hl] at h1 h4 h5
  have hn := line63
  exact tail_any (typeIs_str s z t) slot_str_getitem.lookup (getItem_str (c := c) (by
    have e1 : decide (i < -(2 ^ 63 : Int)) = false := decide_eq_false (by omega)
    have e2 : decide (i ≥ 2 ^ 63) = false := decide_eq_false (by omega)
    rw [e1, e2, Bool.or_false]) (by rw [h1]; simpa using h2) ⟨.str ⟨#[c]⟩, H, I.tok _, ⟨_, rfl⟩, q⟩) hs
theorem slice_bounds (lo hi : Option Int) (n : Nat) : (sliceBounds lo hi none n).1 = ((HT.sIx n 0 lo : Nat) : Int) ∧ (sliceBounds lo hi none n).2.1 = ((HT.sIx n n hi : Nat) : Int) ∧ (sliceBounds lo hi none n).2.2 = 1 := by
  refine ⟨?_, ?_, rfl⟩
  · cases lo with
    | none => simp [sliceBounds, HT.sIx]
    | some i =>
      simp only [sliceBounds, HT.sIx, Option.getD_none, show (1 : Int) > 0 by decide, if_true]
      by_cases h : i < 0
      · simp only [h, if_true] <;> omega
      · simp only [h, if_false] <;> omega
  · cases hi with
    | none => simp [sliceBounds, HT.sIx]
    | some i =>
      simp only [sliceBounds, HT.sIx, Option.getD_none, show (1 : Int) > 0 by decide, if_true]
      by_cases h : i < 0
      · simp only [h, if_true] <;> omega
      · simp only [h, if_false] <;> omega
theorem slicePick_cut (its : List Value) (lo hi : Option Int) : slicePick its.toArray lo hi none = ((its.drop (HT.sIx its.length 0 lo)).take (HT.sIx its.length its.length hi - HT.sIx its.length 0 lo)).toArray := by
  obtain ⟨h1, h2, h3⟩ := slice_bounds lo hi its.toArray.size
  unfold slicePick
  rw [h1, h2, h3]
  simp only [sliceRange_one, pick_run, List.size_toArray] <;> rfl
noncomputable def rSlL (K : PySem.W.Frag) : V → Option Int → Option Int → Hp → VK → Prop := fun x lo hi H Q => ∃ a xs, x = .ref a ∧ SqL K H a xs ∧ ∀ p, H p = none → Q (.ref p) (upd H p (.lst (cutV xs lo hi)))
theorem sl_list : SlR X (rSlL X.K) := by
  intro pins s σ H x v vl vu lo hi sl Q I rx hs pl pu h
  obtain ⟨a, xs, rfl, hx, q⟩ := h
  cases rx
  obtain ⟨its, r, ht, hz⟩ := I.list hx
  have hlen := r.length
  refine ⟨"list", _, slot_list_getitem.lookup, ht.isList.typeIs, ?_⟩
  refine wpAny_getItem_list_slice ht.isList hs pl pu .none (by simp) ?_ (by rw [List.size_toArray] <;> omega)
  rw [slicePick_cut, ← hlen]
  refine ⟨.ref s.heap.objs.size, _, I.laid (t' := s.toks) (o := .lst (cutV xs lo hi)) (fun b ob q => Heap.get?_push_of_some _ q) (Nat.le_refl _) ?_, rfl, q _ (I.hok.fresh (Nat.le_refl _))⟩
  exact ⟨Nat.le_trans (cutV_length xs lo hi) hz, _, 0, (r.drop (HT.sIx xs.length 0 lo)).take (HT.sIx xs.length xs.length hi - HT.sIx xs.length 0 lo), Heap.get?_push_size _ rfl⟩
noncomputable def flatV : V → Bool
  | .non => true
  | .bl _ => true
  | .int _ => true
  | .str _ => true
  | _ => false
noncomputable def eqV : V → V → Bool
  | .non, .non => true
  | .bl a, .bl b => a == b
  | .bl a, .int b => (if a then 1 else 0) == b
  | .int a, .bl b => a == (if b then 1 else 0)
  | .int a, .int b => a == b
  | .str a, .str b => a == b
  | _, _ => false
theorem eqAt_V {A : Around} {s : Shared} {y x : V} {u v : Value} (ry : RelV y u) (rx : RelV x v) (fy : flatV y = true) (fx : flatV x = true) : SeqAt.EqAt A s u v (eqV y x) := by
  cases y with
  | non =>
    cases ry
    cases x with
    | non => cases rx; exact SeqAt.EqAt.same _
    | bl b => cases rx; exact SeqAt.EqAt.none_bool b
    | int b => obtain ⟨t, rfl⟩ := rx; exact SeqAt.EqAt.none_int b t
    | str b => obtain ⟨t, rfl⟩ := rx; exact SeqAt.EqAt.none_str b t
    | _ => exact absurd (show false = true from fx) Bool.false_ne_true
  | bl a =>
    cases ry
    cases x with
    | non => cases rx; exact SeqAt.EqAt.bool_none a
    | bl b => cases rx; exact SeqAt.EqAt.bool_bool a b
    | int b => obtain ⟨t, rfl⟩ := rx; exact SeqAt.EqAt.bool_int a b t
    | str b => obtain ⟨t, rfl⟩ := rx; exact SeqAt.EqAt.bool_str a b t
    | _ => exact absurd (show false = true from fx) Bool.false_ne_true
  | int a =>
    obtain ⟨t', rfl⟩ := ry
    cases x with
    | non => cases rx; exact SeqAt.EqAt.int_none a t'
    | bl b => cases rx; exact SeqAt.EqAt.int_bool a t' b
    | int b => obtain ⟨t, rfl⟩ := rx; exact SeqAt.EqAt.int_int a t' b t
    | str b => obtain ⟨t, rfl⟩ := rx; exact SeqAt.EqAt.int_str a t' b t
    | _ => exact absurd (show false = true from fx) Bool.false_ne_true
  | str a =>
    obtain ⟨t', rfl⟩ := ry
    cases x with
    | non => cases rx; exact SeqAt.EqAt.str_none a t'
    | bl b => cases rx; exact SeqAt.EqAt.str_bool a t' b
    | int b => obtain ⟨t, rfl⟩ := rx; exact SeqAt.EqAt.str_int a t' b t
    | str b => obtain ⟨t, rfl⟩ := rx; exact SeqAt.EqAt.str_str a t' b t
    | _ => exact absurd (show false = true from fx) Bool.false_ne_true
  | _ => exact absurd (show false = true from fy) Bool.false_ne_true
noncomputable def eqU (x : V) (u : Value) : Bool := match u with
  | .none => eqV .non x
  | .bool b => eqV (.bl b) x
  | .int i _ => eqV (.int i) x
  | .str z _ => eqV (.str z) x
  | _ => false
theorem eqU_of {x y : V} {u : Value} (r : RelV y u) (f : flatV y = true) : eqU x u = eqV y x := by
  cases y with
  | non => cases r; rfl
  | bl b => cases r; rfl
  | int i => obtain ⟨t, rfl⟩ := r; rfl
  | str z => obtain ⟨t, rfl⟩ := r; rfl
  | _ => exact absurd (show false = true from f) Bool.false_ne_true
theorem any_eqU {x : V} : ∀ {xs : List V} {us : List Value}, Vals xs us → xs.all flatV = true → us.any (eqU x) = xs.any fun y => eqV y x
  | _, _, .nil, _ => rfl
  | y :: xs, u :: us, .cons r t, f => by
    rw [List.all_cons, Bool.and_eq_true] at f
    rw [List.any_cons, List.any_cons, eqU_of r f.1, any_eqU t f.2]
theorem mem_eqAt {A : Around} {s : Shared} {x : V} {v : Value} (rx : RelV x v) (fx : flatV x = true) : ∀ {xs : List V} {us : List Value}, Vals xs us → xs.all flatV = true → ∀ u ∈ us, SeqAt.EqAt A s u v (eqU x u)
  | _, _, .nil, _ => fun u hu => by cases hu
  | y :: xs, u :: us, .cons r t, f => fun u' hu => by
    rw [List.all_cons, Bool.and_eq_true] at f
    rcases List.mem_cons.mp hu with rfl | hu
    · rw [eqU_of r f.1]; exact eqAt_V r rx f.1 fx
    · exact mem_eqAt rx fx t f.2 u' hu
noncomputable def inV (x : V) (xs : List V) : Bool := xs.any fun y => eqV y x
noncomputable def rIn (K : PySem.W.Frag) (neg : Bool) : R2 := fun x y H Q => ∃ p xs, y = .ref p ∧ (SqL K H p xs ∨ SqT K H p xs) ∧ flatV x = true ∧ xs.all flatV = true ∧ Q (.bl (if neg then !inV x xs else inV x xs)) H
theorem op_in_seq : OpR X (compareOp .In) (rIn X.K false) := by
  intro pins s σ H x y v u Q I rx ry h
  obtain ⟨p, xs, rfl, hq, fx, fs, q⟩ := h
  cases ry
  rcases hq with hq | hq
  · obtain ⟨its, r, pl, hz⟩ := I.list hq
    refine SeqAt.in_listAt (eqU x) pl.isList (fun w hw => mem_eqAt rx fx r fs w (by simpa using hw)) ⟨.bl _, H, I, rfl, ?_⟩
    rw [show its.toArray.any (eqU x) = its.any (eqU x) by simp, any_eqU r fs]
    exact q
  · obtain ⟨its, r, pl, hz⟩ := I.tuple hq
    refine SeqAt.in_tupleAt (eqU x) pl (fun w hw => mem_eqAt rx fx r fs w (by simpa using hw)) ⟨.bl _, H, I, rfl, ?_⟩
    rw [show its.toArray.any (eqU x) = its.any (eqU x) by simp, any_eqU r fs]
    exact q
theorem op_notIn_seq : OpR X (compareOp .NotIn) (rIn X.K true) := by
  intro pins s σ H x y v u Q I rx ry h
  obtain ⟨p, xs, rfl, hq, fx, fs, q⟩ := h
  cases ry
  rcases hq with hq | hq
  · obtain ⟨its, r, pl, hz⟩ := I.list hq
    refine SeqAt.notIn_listAt (eqU x) pl.isList (fun w hw => mem_eqAt rx fx r fs w (by simpa using hw)) ⟨.bl _, H, I, rfl, ?_⟩
    rw [show its.toArray.any (eqU x) = its.any (eqU x) by simp, any_eqU r fs]
    exact q
  · obtain ⟨its, r, pl, hz⟩ := I.tuple hq
    refine SeqAt.notIn_tupleAt (eqU x) pl (fun w hw => mem_eqAt rx fx r fs w (by simpa using hw)) ⟨.bl _, H, I, rfl, ?_⟩
    rw [show its.toArray.any (eqU x) = its.any (eqU x) by simp, any_eqU r fs]
    exact q
theorem call_len_seq : CallR X (.builtin "len") (fun xs H Q => ∃ p ys, xs = [.ref p] ∧ (SqL X.K H p ys ∨ SqT X.K H p ys) ∧ Q (.int ys.length) H) := by
  intro pins s σ H xs us Q I r h
  obtain ⟨p, ys, rfl, hq, q⟩ := h
  obtain ⟨u, rfl, rx⟩ := vals1 r
  cases rx
  have hn := line63
  rcases hq with hq | hq
  · obtain ⟨its, r', pl, hz⟩ := I.list hq
    have hlen := r'.length
    exact Calls.call_len_list pl.isList (by simp only [List.size_toArray] <;> omega) ⟨.int ys.length, H, I.tok _, ⟨s.toks + 1, by rw [List.size_toArray, hlen]⟩, q⟩
  · obtain ⟨its, r', pl, hz⟩ := I.tuple hq
    have hlen := r'.length
    exact len_tuple pl (by simp only [List.size_toArray] <;> omega) ⟨.int ys.length, H, I.tok _, ⟨s.toks + 1, by rw [List.size_toArray, hlen]⟩, q⟩
theorem call_len_str : CallR X (.builtin "len") (fun xs H Q => ∃ z, xs = [.str z] ∧ z.length ≤ sizeLine ∧ Q (.int z.length) H) := by
  intro pins s σ H xs us Q I r h
  obtain ⟨z, rfl, hz, q⟩ := h
  obtain ⟨u, rfl, t, rfl⟩ := vals1 r
  have hn := line63
  exact len_str (by omega) ⟨.int z.length, H, I.tok _, ⟨_, rfl⟩, q⟩
theorem CallR.or {f : Value} {r r' : List V → Hp → VK → Prop} (h : CallR X f r) (h' : CallR X f r') : CallR X f (fun xs H Q => r xs H Q ∨ r' xs H Q) := by
  intro pins s σ H xs us Q I rs q
  rcases q with q | q
  · exact h pins s σ H xs us Q I rs q
  · exact h' pins s σ H xs us Q I rs q
theorem call_tuple_of : CallR X (.type "tuple") (fun xs H Q => ∃ p ys, xs = [.ref p] ∧ ((SqL X.K H p ys ∧ ∀ l, H l = none → Q (.ref l) (upd H l (.tup ys))) ∨ (SqT X.K H p ys ∧ Q (.ref p) H))) := by
  intro pins s σ H xs us Q I r h
  obtain ⟨p, ys, rfl, h⟩ := h
  obtain ⟨u, rfl, rx⟩ := vals1 r
  cases rx
  rcases h with ⟨hq, q⟩ | ⟨hq, q⟩
  · obtain ⟨its, r', pl, hz⟩ := I.list hq
    have hlen := r'.length
    refine call_tuple_list pl.isList (fun h' kp => ?_) (by simp only [List.size_toArray] <;> omega)
    have I1 : Inv X pins σ H { s with heap := h' } := I.kept (t' := s.toks) kp
    have I2 : Inv X pins σ (upd H h'.objs.size (.tup ys)) { s with heap := h'.push { cls := .type "tuple", data := .seq its.toArray } } :=
      I1.laid (t' := s.toks) (fun b o e => Heap.get?_push_of_some _ e) (Nat.le_refl _) (show ObjOk X.prog X.w _ _ _ (.tup ys) from ⟨hz, its, r', IsTup.new _ _⟩)
    exact ⟨.ref h'.objs.size, _, I2, rfl, q _ (I1.hok.fresh (Nat.le_refl _))⟩
  · obtain ⟨its, r', pl, hz⟩ := I.tuple hq
    exact call_tuple_same pl ⟨.ref p, H, I, rfl, q⟩
noncomputable def tyV (K : PySem.W.Frag) (T : String) (x : V) (H : Hp) : Prop := match x with
  | .str _ => T = "str"
  | .int _ => T = "int"
  | .ref p => (T = "list" ∧ ∃ xs, SqL K H p xs) ∨ (T = "tuple" ∧ ∃ o, K.lookup p = some o ∧ o.cls = .type "tuple" ∧ o.dict = none) ∨
      (T = "dict" ∧ ((∃ kvs, H p = some (.dK kvs)) ∨ ∃ kvs, H p = some (.dT kvs))) ∨ (T = "set" ∧ ∃ S n, H p = some (.set S n))
  | _ => False
theorem tyV_is {pins : List (Addr × Obj)} {σ : St} {H : Hp} {s : Shared} {T : String} {x : V} {v : Value} (I : Inv X pins σ H s) (r : RelV x v) (ty : tyV X.K T x H) :
    s.TypeIs v T ∧ ∀ a, v = .ref a → ∃ ob, s.heap.get? a = some ob ∧ ob.dict = none := by
  cases x with
  | str z =>
    obtain ⟨t, rfl⟩ := r
    cases (show T = "str" from ty)
    exact ⟨typeIs_str s z t, fun _ e => nomatch e⟩
  | int i =>
    obtain ⟨t, rfl⟩ := r
    cases (show T = "int" from ty)
    exact ⟨typeIs_int s i t, fun _ e => nomatch e⟩
  | ref p =>
    cases r
    rcases ty with ⟨rfl, xs, hq⟩ | ⟨rfl, o, hk, hc, hd⟩ | ⟨rfl, hk⟩ | ⟨rfl, S, n, hk⟩
    · obtain ⟨its, _, pl, _⟩ := I.list hq
      refine ⟨pl.isList.typeIs, fun a e => ?_⟩
      cases e
      obtain ⟨o, n, e, c, hd, _⟩ := pl
      exact ⟨o, e, hd⟩
    · refine ⟨⟨o, I.kIn p o hk, hc⟩, fun a e => ?_⟩
      cases e
      exact ⟨o, I.kIn _ o hk, hd⟩
    · have z : ∃ o, s.heap.get? p = some o ∧ o.ExactDict := by
        rcases hk with ⟨kvs, hk⟩ | ⟨kvs, hk⟩
        · obtain ⟨_, _, _, _, o, _, _, e, ex, _⟩ := I.hok p _ hk
          exact ⟨o, e, ex⟩
        · obtain ⟨_, _, _, _, o, _, _, e, ex, _⟩ := I.hok p _ hk
          exact ⟨o, e, ex⟩
      obtain ⟨o, e, ex⟩ := z
      refine ⟨⟨o, e, ex.1⟩, fun a e2 => ?_⟩
      cases e2
      exact ⟨o, e, ex.2.1⟩
    · obtain ⟨o, _, _, _, e, ex, _⟩ := I.hok p _ hk
      refine ⟨⟨o, e, ex.1⟩, fun a e2 => ?_⟩
      cases e2
      exact ⟨o, e, ex.2.1⟩
  | _ => exact False.elim ty
noncomputable def tBM0 (K : PySem.W.Frag) (T : String) (r : V → List V → Hp → VK → Prop) (to : TE) : TE := fun σ H Q => to σ H fun x H1 => tyV K T x H1 ∧ r x [] H1 Q
noncomputable def tBM (K : PySem.W.Frag) (T : String) (r : V → List V → Hp → VK → Prop) (to : TE) (t : TA) : TE := fun σ H Q => to σ H fun x H1 => tyV K T x H1 ∧ t σ H1 fun xs H2 => r x xs H2 Q
variable {o e : Expr} {es : List Expr} {to : TE} {t : TA} {name : Str} {apos cpos : Pos} {T id : String} {r : V → List V → Hp → VK → Prop}
theorem pe_bm0 (pa : PlainAttrs T) (slot : Slot T name id) (hty : typeOf (.builtin id) = pure (.type "method_descriptor")) (hm : MtR X id r) (ho : PE X o to)
    (hbase : attributeBase o name X.env (eval o X.env) = eval o X.env := by rfl) (hline : (apos.endLine == cpos.line) = true := by rfl) : PE X (.Call (.Attribute o name apos) [] [] cpos) (tBM0 X.K T r to) := by
  intro pins s σ H Q I h
  refine wpAny_Call_method0_late hbase hline (thn (ho pins s σ H _ I h) fun v s1 ⟨x, H1, I1, r1, ty, q1⟩ => ?_)
  obtain ⟨h1, h2⟩ := tyV_is I1 r1 ty
  exact ⟨T, id, pa, slot, hty, h1, h2, Calls.callWith_builtin rfl (PySem.evalArgs_none (hm pins s1 σ H1 x [] v [] Q I1 r1 .nil q1))⟩
theorem pe_bm (pa : PlainAttrs T) (slot : Slot T name id) (hty : typeOf (.builtin id) = pure (.type "method_descriptor")) (hm : MtR X id r) (ho : PE X o to) (ha : PA X (e :: es) t)
    (hbase : attributeBase o name X.env (eval o X.env) = eval o X.env := by rfl)
    (hfew : ((backTo cpos (starEach (e :: es) X.env)).all (fun x => !x.1) && (backToKw cpos (keywordEach [] X.env)).all (fun x => x.1.isSome)
      && decide ((e :: es).length + ([] : List Keyword).length + (if ([] : List Keyword).isEmpty then 0 else 1) < 30)) = true := by rfl)
    (hline : (apos.endLine == cpos.line) = true := by rfl) (hs : starEach (e :: es) X.env = (false, eval e X.env) :: starEach es X.env := by rfl) (hplain : (backTo cpos (starEach es X.env)).any (·.1) = false := by rfl) :
    PE X (.Call (.Attribute o name apos) (e :: es) [] cpos) (tBM X.K T r to t) := by
  intro pins s σ H Q I h
  refine wpAny_Call_method_late hbase hfew hline rfl (thn (ho pins s σ H _ I h) fun v s1 ⟨x, H1, I1, r1, ty, q1⟩ => ?_)
  obtain ⟨h1, h2⟩ := tyV_is I1 r1 ty
  refine ⟨T, id, pa, slot, hty, h1, h2, ?_⟩
  have hA := ha cpos pins s1 σ H1 _ I1 q1
  rw [hs] at hA ⊢
  refine Calls.callWith_builtin (by show (false || (backTo cpos (starEach es X.env)).any (·.1)) = false; rw [hplain] <;> rfl) (Calls.evalArgs_plain ?_)
  exact thn hA fun us s2 ⟨vs, H2, I2, r2, q2⟩ => hm pins s2 σ H2 x vs v us Q I2 r1 r2 q2
end
end L2
namespace L2
open PySem PySem.Spec PyProof.Rows
noncomputable def MtM (X : Cx) (id : String) (r : V → List V → Hp → VK → Prop) : Prop :=
  ∀ (pins : List (Addr × Obj)) (s : Shared) (σ : St) (H : Hp) (x : V) (xs : List V) (v : Value) (us : List Value) (Q : VK), Inv X pins σ H s → RelV x v → Vals xs us → r x xs H Q →
    wpAny (model X.prog X.w) X.A (call (.builtin id) (v :: us)) (EP X pins σ Q) X.xe s
theorem Vals.one : ∀ {x : V} {us : List Value}, Vals [x] us → ∃ u, us = [u] ∧ RelV x u
  | _, _, .cons r .nil => ⟨_, rfl, r⟩
theorem Vals.zero : ∀ {us : List Value}, Vals [] us → us = []
  | _, .nil => rfl
theorem Vals.dropLast {xs : List V} {us : List Value} (h : Vals xs us) : Vals xs.dropLast us.dropLast := by
  induction h with
  | nil => exact .nil
  | cons r t ih =>
    cases t with
    | nil => exact .nil
    | cons q t' => exact .cons r ih
theorem erase_last {α : Type} (l : List α) : l.eraseIdx (l.length - 1) = l.dropLast := by
  induction l with
  | nil => rfl
  | cons a r ih =>
    cases r with
    | nil => rfl
    | cons b r =>
      have e : (a :: b :: r).length - 1 = ((b :: r).length - 1) + 1 := by
        have h1 : (a :: b :: r).length = r.length + 2 := rfl
        have h2 : (b :: r).length = r.length + 1 := rfl
        omega
      rw [e, List.eraseIdx_cons_succ, ih]
      all_goals rfl
section
variable {X : Cx} {pins : List (Addr × Obj)} {σ : St} {H : Hp} {s : Shared} {l b : Addr} {xs ys zs : List V}
theorem Inv.lset {its its' : List Value} {n : Nat} {f : Array Value → Array Value} {t' : Nat} (I : Inv X pins σ H s) (hH : H l = some (.lst xs))
    (e : s.heap.get? l = some { cls := .type "list", data := .seq its.toArray n }) (hf : f its.toArray = its'.toArray) (hv : Vals ys its') (hz : ys.length ≤ sizeLine) :
    Inv X pins σ (upd H l (.lst ys)) { s with heap := s.heap.update l (Obj.mapSeq f), toks := t' } := by
  have q := PySem.IsL.update e f
  rw [hf] at q
  refine I.write (x := l) (e := l) (by rw [hH]; exact trivial) (.inl rfl) (fun b' u hb hu => (Heap.get?_update_other s.heap (Obj.mapSeq f) (Ne.symm hb)).trans hu) ⟨_, q⟩ ?_
  exact ⟨hz, its', _, hv, q⟩
theorem Inv.lnew {its : List Value} {t' : Nat} (I : Inv X pins σ H s) (hv : Vals ys its) (hz : ys.length ≤ sizeLine) :
    Inv X pins σ (upd H s.heap.objs.size (.lst ys)) { s with heap := s.heap.push { cls := .type "list", data := .seq its.toArray }, toks := t' } :=
  I.laid (fun _ _ q => Heap.get?_push_of_some _ q) (Nat.le_refl _) ⟨hz, its, 0, hv, Heap.get?_push_size _ rfl⟩
theorem Inv.fresh (I : Inv X pins σ H s) : H s.heap.objs.size = none := I.hok.fresh (Nat.le_refl _)
theorem Inv.lstM (I : Inv X pins σ H s) (hH : H l = some (.lst xs)) : xs.length ≤ sizeLine ∧ ∃ (its : List Value) (n : Nat), Vals xs its ∧ xs.length = its.length ∧ s.heap.get? l = some { cls := .type "list", data := .seq its.toArray n } := by
  obtain ⟨z, its, n, r, e⟩ := I.hok l _ hH
  exact ⟨z, its, n, r, r.length, e⟩
end
section
variable {X : Cx}
noncomputable def rAppend : V → List V → Hp → VK → Prop := fun x vs H Q => ∃ l xs y, x = .ref l ∧ vs = [y] ∧ H l = some (.lst xs) ∧ xs.length < sizeLine ∧ Q .non (upd H l (.lst (xs ++ [y])))
theorem mt_append : MtM X "list.append" rAppend := by
  intro pins s σ H x vs v us Q I rx rv h
  obtain ⟨l, xs, y, rfl, rfl, hH, hz, q⟩ := h
  cases rx
  obtain ⟨u, rfl, ru⟩ := rv.one
  obtain ⟨z, its, n, r, hl, e⟩ := I.lstM hH
  refine call_meets F.slot_list_append ⟨_, e, rfl⟩ F.entry_list_append (F.args_list_append_2 _ _) (PySem.list_append l its.toArray n u (by rw [List.size_toArray]; omega)) ⟨e, ?_⟩
  refine ⟨.non, _, I.lset (its' := its ++ [u]) hH e (by simp) (r.append (.cons ru .nil)) ?_, rfl, q⟩
  rw [List.length_append, List.length_singleton]
  omega
noncomputable def rPop : V → List V → Hp → VK → Prop := fun x vs H Q => ∃ l xs y, x = .ref l ∧ vs = [] ∧ H l = some (.lst xs) ∧ xs[xs.length - 1]? = some y ∧ Q y (upd H l (.lst xs.dropLast))
theorem mt_pop : MtM X "list.pop" rPop := by
  intro pins s σ H x vs v us Q I rx rv h
  obtain ⟨l, xs, y, rfl, rfl, hH, hy, q⟩ := h
  cases rx
  have hus := rv.zero
  subst hus
  obtain ⟨z, its, n, r, hl, e⟩ := I.lstM hH
  obtain ⟨u, hu, ru⟩ := r.get hy
  have hy' : its.toArray[its.toArray.size - 1]? = some u := by
    show its.toArray[its.length - 1]? = some u
    rw [← Array.getElem?_toList, ← hl]
    exact hu
  refine call_meets F.slot_list_pop ⟨_, e, rfl⟩ F.entry_list_pop (F.args_list_pop_1 _) (MeetsSeq.list_pop_last l its.toArray n u hy' (by rw [List.size_toArray]; omega)) ⟨e, ?_⟩
  refine ⟨y, _, I.lset (its' := its.dropLast) hH e ?_ r.dropLast ?_, ru, q⟩
  · show its.toArray.eraseIdxIfInBounds (its.toArray.size - 1) = its.dropLast.toArray
    rw [List.size_toArray, List.eraseIdxIfInBounds_toArray, erase_last]
  · rw [List.length_dropLast]
    omega
noncomputable def rCat : R2 := fun x y H Q => ∃ l b xs zs, x = .ref l ∧ y = .ref b ∧ H l = some (.lst xs) ∧ H b = some (.lst zs) ∧ xs.length + zs.length ≤ sizeLine ∧ ∀ p, H p = none → Q (.ref p) (upd H p (.lst (xs ++ zs)))
theorem op_cat : OpR X (binaryOp .Add) rCat := by
  intro pins s σ H x y v u Q I rx ry h
  obtain ⟨l, b, xs, zs, rfl, rfl, hH, hB, hz, q⟩ := h
  cases rx
  cases ry
  obtain ⟨z, its, n, r, hl, e⟩ := I.lstM hH
  obtain ⟨z2, its2, n2, r2, hl2, e2⟩ := I.lstM hB
  refine PySem.P.add_list e e2 ?_ (by rw [List.size_toArray, List.size_toArray]; omega)
  have ea : its.toArray ++ its2.toArray = (its ++ its2).toArray := by simp
  rw [ea]
  exact ⟨.ref _, _, I.lnew (t' := s.toks) (r.append r2) (by rw [List.length_append]; omega), rfl, q _ I.fresh⟩
end
section
variable {prog : Program} {w : World} {A : Around} {E : Value → Shared → Prop} {s : Shared}
set_option maxRecDepth 100000 in
end
section
variable {X : Cx}
end
end L2
namespace Att
open PySem PySem.W PySem.Calls PyProof.Rows
theorem ints_of_wellAll {P : Params} {h : Heap} : ∀ (ns : List Int) (vs : List Value), WellAll P h vs (ns.map WData.int) → IntsAre vs ns := by
  intro ns
  induction ns with
  | nil =>
    intro vs w
    rw [List.map_nil] at w
    cases w
    exact .nil
  | cons n ns ih =>
    intro vs w
    rw [List.map_cons] at w
    cases w with
    | cons a b =>
      cases a
      exact .cons _ _ (ih _ b)
theorem script_of {l : OpenLaw} {n : Nat} (hn : l.most = some n) {P : Params} {h : Heap} {args : List WData} {vals : List Value}
    (hpre : l.row.toRowW.claim.pre args = true) (hwl : WellAll P h vals args) :
    ∃ a vs ns, vals = [Value.ref a] ∧ args = [WData.list (ns.map WData.int)] ∧ h.get? a = some { cls := .type "list", data := .seq vs.toArray } ∧ IntsAre vs ns ∧ ns.length ≤ n := by
  have hsh : WShape.hasAll [] args [.list .int] = true := (pre_splitW hpre).1
  have hc : l.pre.holds [] { args := args } = true := (pre_splitW hpre).2
  obtain ⟨d, r, rfl, h1, h2⟩ := hasAllW_cons hsh
  obtain rfl := hasAllW_nil h2
  obtain ⟨xs, rfl, h3⟩ := hasW_list h1
  obtain ⟨ns, rfl⟩ := items_int h3
  have hlen : ns.length ≤ n := by
    unfold OpenLaw.pre at hc
    have h4 : (WTm.not (.lt (.lit (.int (n : Int))) (.len (.arg 0)))).holds [] { args := [.list (ns.map .int)] } = true := by
      have h4 := (holds_andW hc).1
      rw [hn] at h4
      exact h4
    have h5 := condW_of h4 (w_not (w_lt w_lit (w_len_list (w_arg rfl))))
    rw [List.length_map] at h5
    refine Nat.le_of_not_lt fun q => ?_
    have q' : (n : Int) < ((ns.length : Nat) : Int) := by omega
    first
      | (rw [decide_eq_true q'] at h5; exact absurd h5 (by decide))
      | (simp at h5; omega)
  cases hwl with
  | cons w1 w2 =>
    cases w2
    cases w1 with
    | list ho hall => exact ⟨_, _, ns, rfl, rfl, ho, ints_of_wellAll ns _ hall, hlen⟩
theorem post_true (l : OpenLaw) (args : List WData) : l.row.toRowW.claim.post args (.bool true) args = true :=
  postW_of (r := l.row.toRowW) (X := (true == true))
    (show WShape.has [] (.bool true) .bool = true by first | rfl | decide | simp [WShape.has, WShape.arms, WShape.armsAll])
    (show (WTm.eq .res (.lit (.bool true))).value [] { args := args, res := some (.bool true), after := args } = some (.bool (true == true)) from w_eq_bool (w_res rfl) w_lit) rfl
theorem attach_call {l : OpenLaw} {n : Nat} {q : Program} {loose : List Str} {XP : (Str → Option Value) → Heap → Prop} {YP : World → Heap → Prop} {d : DefRec}
    (hn : l.most = some n) (hdf : d.params.defaults = [])
    (call : ∀ (w : World) (s₀ s₁ : Shared) (mg mb : Str → Option Value) (fa : Addr) (o : Obj) (pm cd doc : Value) (a : Addr) (vs : List Value) (ns : List Int),
      Ground q loose [] XP w s₀ mg mb s₁.heap → YP w s₁.heap →
      s₁.heap.get? fa = some o → o.data = .func (docDef d.name d.params d.body d.scope pm cd doc) → s₁.heap.CodeRec cd d.name → mg d.name = some (.ref fa) →
      s₁.heap.get? a = some { cls := .type "list", data := .seq vs.toArray } → IntsAre vs ns → ns.length ≤ n → s₁.gens = #[] →
      codeAny (model l.prog w) callerA (.call (.ref fa) ⟨[.ref a], []⟩) (fun r s' => r = .ok (.ret (.bool true)) ∧ OldK s₁.heap s'.heap ∧ s'.os = s₁.os ∧ AllBare s'.gens) s₁) :
    WalkO q loose XP YP l.row.toRowW d [] (fun f vs => PySem.call f vs) := by
  intro w s₀ s₁ mg mb G Y fa o pm cd doc dV kV ho hd hcd hD hmg hg args vals as hpre hlay hrd hwl hlo
  obtain rfl : dV = .none := Dflts.none hD hdf
  obtain rfl : kV = .none := Dflts.noKw hD
  obtain ⟨a, vs, ns, rfl, rfl, hobj, hints, hlen⟩ := script_of hn hpre hwl
  refine enter_call (codeAny_mono (call w s₀ s₁ mg mb fa o pm cd doc a vs ns G Y ho (fd_plain hd) hcd hmg hobj hints hlen hg) fun r s' hq => ?_)
  obtain ⟨rfl, h2, h3, h4⟩ := hq
  exact ⟨.inl ⟨.bool true, .bool true, [], rfl, fun _ => rfl, .bool true, post_true l _, fun _ => ⟨List.Pairwise.nil, fun _ hm => (nomatch hm)⟩⟩, h2, h3, h4⟩
section
variable {prog : Program} {w : World} {A : Around} {E : Value → Shared → Prop} {s : Shared} {K : Frag}
end
end Att
namespace L2
open PySem PySem.Spec PyProof.Rows
theorem vals_ints : ∀ {vs : List Value} {ns : List Int}, IntsAre vs ns → Vals (ns.map V.int) vs
  | _, _, .nil => .nil
  | _, _, .cons n t h => .cons ⟨t, rfl⟩ (vals_ints h)
noncomputable def Only (H : Hp) : Prop := ∀ b, H b = none ∨ ∃ o xs, H b = some (.frz o (.lst xs))
theorem law_call {P : Program} {w : World} {K : PySem.W.Frag} {mg mb : Str → Option Value} {CX : CXT} {k : Nat} {fa a : Addr} {fd : FuncData} {x : Str} {sp : Sp} {s₁ : Shared} {vs : List Value} {ns : List Int}
    (KX : K.In s₁.heap) (hns : s₁.heap.Ns mainGlobals mg) (hb : s₁.heap.Ns builtinsNs mb) (hbb : ∀ x : Str, x ≠ "__name__" → mb x = bootBuiltins x) (hlim : s₁.heap.NoLimit) (hg : s₁.gens = #[])
    (ha : s₁.heap.get? a = some { cls := .type "list", data := .seq vs.toArray }) (hi : IntsAre vs ns) (hl : ns.length ≤ sizeLine) (hr : Room k callerA)
    (F : ∀ base : Heap, K.In base → base.Ns mainGlobals mg → FnOk P w K mg base CX k fa fd [x] sp) (hbind : ∀ (s : Shared) (u : Value), BindsTo s fd ⟨[u], []⟩ [(x, u)])
    (hsp : ∀ H : Hp, Only H → SqL K H a (ns.map V.int) → sp [.ref a] H (fun v _ => v = .bl true) fun _ _ _ => False)
    (hCX : ∀ H e s', CX [] H s₁ (fun _ _ _ => False) e s' → False) :
    codeAny (model P w) callerA (.call (.ref fa) ⟨[.ref a], []⟩) (fun r s' => r = .ok (.ret (.bool true)) ∧ OldK s₁.heap s'.heap ∧ s'.os = s₁.os ∧ AllBare s'.gens) s₁ := by
  have rv := vals_ints hi
  have lenV := hi.length
  have core : ∀ H : Hp, Only H → SqL K H a (ns.map V.int) → HOk P w H s₁.heap → (∀ b, H b ≠ none → b = a) → (H a ≠ none → K.lookup a = none) →
      codeAny (model P w) callerA (.call (.ref fa) ⟨[.ref a], []⟩) (fun r s' => r = .ok (.ret (.bool true)) ∧ OldK s₁.heap s'.heap ∧ s'.os = s₁.os ∧ AllBare s'.gens) s₁ := by
    intro H hO hS hok hA hK
    have base_of : ∀ {b : Addr} {o : Obj}, s₁.heap.get? b = some o → H b = none → (hidT s₁.heap H).get? b = some o := fun e n => hidT_get e n
    have noA : ∀ {b : Addr} {o : Obj} {es : Array DictEntry} {ep : Nat}, s₁.heap.get? b = some o → o.data = .dict es ep → H b = none := fun {b o es ep} e d => by
      cases q : H b with
      | none => rfl
      | some u =>
        have e' : b = a := hA b (by rw [q]; simp)
        subst e'
        rw [ha] at e; cases e
        have d' : Data.seq vs.toArray _ = Data.dict es ep := d
        cases d'
    have nsK : ∀ {b : Addr} {m : Str → Option Value}, s₁.heap.Ns b m → (hidT s₁.heap H).Ns b m := fun {b m} ⟨o, es, ep, e, d, r⟩ => ⟨o, es, ep, base_of e (noA e d), d, r⟩
    have hKb : K.In (hidT s₁.heap H) := fun b o e => base_of (KX b o e) (by
      cases q : H b with
      | none => rfl
      | some u =>
        have e' : b = a := hA b (by rw [q]; simp)
        subst e'
        rw [hK (by rw [q]; simp)] at e; cases e)
    have hM : Mod K mg (hidT s₁.heap H) := ⟨hKb, nsK hns, ⟨mb, nsK hb, hbb⟩, let ⟨mc, h1, h2⟩ := hlim; ⟨mc, nsK h1, h2⟩⟩
    have e0 : Env0 P w K mg (hidT s₁.heap H) callerA [] s₁ H := ⟨rfl, hM, fun b o e => of_hidT e, Nat.le_of_eq (hidT_size _ _), trivial, fun b hb => absurd (show b ∈ ([] : List Addr) from hb) (by simp), hok, .of_eq hg⟩
    refine codeAny_mono ((F _ hKb (nsK hns)).run callerA [] s₁ H ⟨[.ref a], []⟩ [.ref a] [.ref a] _ _ hr e0 (hbind s₁ (.ref a)) (.cons rfl .nil) (hsp H hO hS)) fun r s' h => ?_
    cases r with
    | error e => exact (hCX H e s' h).elim
    | ok fl =>
      cases fl with
      | next => exact False.elim h
      | brk => exact False.elim h
      | cont => exact False.elim h
      | ret u =>
        obtain ⟨v, H', os, bare, un, hok', r', q⟩ := h
        have q' : v = .bl true := q
        subst q'
        obtain rfl : u = Value.bool true := r'
        refine ⟨rfl, OldK.of_keep fun b o e => ?_, os, bare⟩
        cases q : H b with
        | none => exact un.keep b o e q (by intro z; exact absurd (show b ∈ ([] : List Addr) from z) (by simp)) (by simp)
        | some u =>
          rcases hO b with z | ⟨ob, xs, z⟩
          · rw [q] at z; cases z
          · have z2 := un.frzs b ob _ z
            obtain ⟨e1, _⟩ := hok b _ z
            obtain ⟨e2, _⟩ := hok' b _ z2
            rw [e] at e1; cases e1
            exact e2
  cases hk : K.lookup a with
  | some o =>
    have e := KX a o hk
    rw [ha] at e
    cases e
    refine core (fun _ => none) (fun _ => .inl rfl) (.inr ⟨_, vs.toArray, _, hk, rfl, rfl, rfl, by rw [List.size_toArray, lenV]; exact hl, by simpa using rv⟩) (fun b u z => by have z' : (none : Option HO) = some u := z; cases z') (fun b z => absurd rfl z) fun z => absurd rfl z
  | none =>
    refine core (fun b => if b = a then some (.frz { cls := .type "list", data := .seq vs.toArray } (.lst (ns.map V.int))) else none) (fun b => ?_) (.inl (.inr ⟨{ cls := .type "list", data := .seq vs.toArray }, if_pos rfl⟩)) (fun b u z => ?_) (fun b z => ?_) fun _ => hk
    · by_cases hb : b = a
      · exact .inr ⟨_, _, if_pos hb⟩
      · exact .inl (if_neg hb)
    · by_cases hb : b = a
      · have z' := (if_pos hb).symm.trans z
        cases z'
        subst hb
        exact ⟨ha, by rw [List.length_map]; exact hl, vs, _, rv, ha⟩
      · have z' := (if_neg hb).symm.trans z
        cases z'
    · by_cases hb : b = a
      · exact hb
      · exact absurd (if_neg hb) z
end L2
namespace L2
open PySem PySem.Spec PyProof.Rows
noncomputable abbrev KOf {K : PySem.W.Frag} {h : Heap} (_ : K.In h) : PySem.W.Frag := K
theorem walk_of {l : PySem.W.OpenLaw} {n k : Nat} {q : Program} {loose : List Str} {XP : (Str → Option Value) → Heap → Prop} {YP : World → Heap → Prop} {d : DefRec} {K : Params → PySem.W.Frag} {CX : World → CXT} {sp : World → Sp} {x : Str}
    (hn : l.most = some n) (hn2 : n ≤ sizeLine) (hdf : d.params.defaults = []) (hr : Room k callerA)
    (hY : ∀ (w : World) (h : Heap), YP w h → (K w.params).In h)
    (F : ∀ (w : World) (mg : Str → Option Value) (fa : Addr) (h : Heap), (K w.params).In h → h.Ns mainGlobals mg → mg d.name = some (.ref fa) →
      ∃ fd : FuncData, (∀ (s : Shared) (u : Value), BindsTo s fd ⟨[u], []⟩ [(x, u)]) ∧
        ∀ base : Heap, (K w.params).In base → base.Ns mainGlobals mg → FnOk l.prog w (K w.params) mg base (CX w) k fa fd [x] (sp w))
    (hsp : ∀ (w : World) (H : Hp) (a : Addr) (ns : List Int), ns.length ≤ n → Only H → SqL (K w.params) H a (ns.map V.int) → sp w [.ref a] H (fun v _ => v = .bl true) fun _ _ _ => False)
    (hCX : ∀ (w : World) (H : Hp) (s : Shared) (e : Value) (s' : Shared), CX w [] H s (fun _ _ _ => False) e s' → False) :
    PySem.W.WalkO q loose XP YP l.row.toRowW d [] (fun f vs => PySem.call f vs) := by
  refine Att.attach_call hn hdf fun w s₀ s₁ mg mb fa o pm cd doc a vs ns G Y ho hd hcd hmg hobj hints hlen hg => ?_
  have KX := hY w _ Y
  obtain ⟨fd, hb, hF⟩ := F w mg fa _ KX G.T.g hmg
  exact law_call KX G.T.g G.T.b G.T.builtins G.T.nolimit hg hobj hints (Nat.le_trans hlen hn2) hr hF hb (fun H hO hS => hsp w H a ns hlen hO hS) fun H e s' => hCX w H s₁ e s'
end L2
namespace L2
open PySem PySem.Spec PyProof.Rows
noncomputable def inClass (s : Stmt) (j : Nat) : Stmt := match s with
  | .ClassDef _ _ _ body _ _ _ _ _ _ _ => body.getD j (.Pass ⟨0, 0, 0, 0⟩)
  | _ => .Pass ⟨0, 0, 0, 0⟩
noncomputable def defArgs (s : Stmt) : Arguments := match s with
  | .FunctionDef _ a _ _ _ _ _ _ _ _ => a
  | _ => { posonlyargs := [], args := [], vararg := none, kwonlyargs := [], kw_defaults := [], kwarg := none, defaults := [] }
noncomputable def defBody (s : Stmt) : List Stmt := match s with
  | .FunctionDef _ _ b _ _ _ _ _ _ _ => b
  | _ => []
noncomputable def defScope (s : Stmt) : Scope := match s with
  | .FunctionDef _ _ _ _ _ _ sc _ _ _ => sc
  | _ => { kind := .function, names := [], isGenerator := false, isCoroutine := false }
noncomputable abbrev CX0 : CXT := fun _ _ _ _ _ _ => False
noncomputable abbrev E0 : XK := fun _ _ _ => False
theorem pass0 {X : Cx} : Passes CX0 X E0 := fun _ _ _ _ _ _ _ h => h.elim
structure Fun (K : PySem.W.Frag) (x qual : Str) (st : Stmt) (f : Addr) (fd : FuncData) : Prop where
  ex : ∃ (oc : Value) (od : Option Addr) (kV doc pm : Value) (an : Option Addr) (cdv ct : Value) (osl : Array (Option Value)),
    fd = PySem.W.fnOf x qual (defArgs st) (defBody st) (defScope st) .none kV doc pm an cdv ct ∧ K.lookup f = some ⟨oc, od, .func fd, osl⟩ ∧ PySem.W.codeIn K cdv qual = true
  kp : PySem.W.keepIn K (.ref f) = true
section
variable {P : Program} {w : World} {K : PySem.W.Frag} {mg : Str → Option Value} {base : Heap}
theorem Fun.ok {x qual : Str} {st : Stmt} {f : Addr} {fd : FuncData} {N ps : List Str} {k : Nat} {sp : Sp} (F : Fun K x qual st f fd) (S : FnScope N ps (defScope st)) (len : ∀ vs H Q E, sp vs H Q E → vs.length = ps.length)
    (hbody : ∀ (cdv : Value) (A : Around) (outer : List Env) (s : Shared) (H : Hp) (vs : List V) (Q : VK) (E : XK), Room k (A.deeper (envOfC qual (defScope st) s.heap.objs.size f cdv)) → sp vs H Q E →
      ∃ t, PSs (cxOf CX0 P w K mg base N qual (defScope st) f cdv A outer s H E).nox (defBody st) t ∧ t { nx := fun _ H' => Q .non H', rt := Q } (start N vs) H) : FnOk P w K mg base CX0 (k + 1) f fd ps sp := by
  obtain ⟨oc, od, kV, doc, pm, an, cdv, ct, osl, rfl, lk, hcd⟩ := F.ex
  refine fn_of lk hcd S len fun A outer s H vs Q E hr hsp => ?_
  obtain ⟨t, h, q⟩ := hbody cdv A outer s H vs Q E hr hsp
  exact ⟨t, h.nox, q⟩
theorem Fun.binds {x qual : Str} {st : Stmt} {f : Addr} {fd : FuncData} {ps : List Str} (F : Fun K x qual st f fd)
    (h : ∀ (kV doc pm : Value) (an : Option Addr) (cdv ct : Value) (us : List Value), us.length = ps.length → bindArgs (PySem.W.fnOf x qual (defArgs st) (defBody st) (defScope st) .none kV doc pm an cdv ct) ⟨us, []⟩ = pure (ps.zip us)) : Binds K fd ps [] := by
  obtain ⟨oc, od, kV, doc, pm, an, cdv, ct, osl, rfl, lk, hcd⟩ := F.ex
  exact .all (h kV doc pm an cdv ct)
theorem fun_mk {x qual : Str} {st : Stmt} {f : Addr} {oc : Value} {od an : Option Addr} {osl : Array (Option Value)} {kV doc pm cdv ct : Value} (l : K.lookup f = some ⟨oc, od, .func (PySem.W.fnOf x qual (defArgs st) (defBody st) (defScope st) .none kV doc pm an cdv ct), osl⟩)
    (c : PySem.W.codeIn K cdv qual = true) (k : PySem.W.keepIn K (.ref f) = true) : Fun K x qual st f (PySem.W.fnOf x qual (defArgs st) (defBody st) (defScope st) .none kV doc pm an cdv ct) := ⟨⟨oc, od, kV, doc, pm, an, cdv, ct, osl, rfl, l, c⟩, k⟩
end
theorem hu_of {A : Around} {k : Nat} (hr : Room k A) : A.units + 1 < cLine := Nat.lt_of_le_of_lt (Nat.add_le_add_left (by decide : 1 ≤ 64) _) hr.units
theorem small1000 {n : Nat} (h : n ≤ 1000) : n < sizeLine := Nat.lt_of_le_of_lt h (by decide)
section
variable {X : Cx}
theorem pv (i : Nat) {x : Str} {pos : Pos} (hN : X.N[i]? = some x := by rfl) (hv : Vis X.env.scope x := by first | exact Or.inl rfl | exact Or.inr (Or.inl rfl) | exact Or.inr (Or.inr rfl)) (hd : (x == ("__debug__" : Str)) = false := by decide)
    (hcd : (x == ("__classdict__" : Str)) = false := by decide) : PE X (.Name x pos) (tVar i) := pe_var hN hv hd hcd
end
theorem iteF {A B : Prop} (h : B) : if false = true then A else B := by
  rw [if_neg Bool.false_ne_true]
  exact h
theorem iteT {A B : Prop} (h : A) : if true = true then A else B := by
  rw [if_pos rfl]
  exact h
theorem ite2 {c A B : Prop} [Decidable c] (h1 : c → A) (h2 : ¬ c → B) : if c then A else B := by
  by_cases h : c
  · rw [if_pos h]
    exact h1 h
  · rw [if_neg h]
    exact h2 h
theorem iteNS {c A B : Prop} [Decidable c] (hc : c) (h : B) : if (!decide c) = true then A else B := by
  rw [decide_eq_true hc]
  exact iteF h
noncomputable def Same (H H' : Hp) : Prop := ∀ b o, H b = some o → H' b = some o
theorem Same.refl (H : Hp) : Same H H := fun _ _ h => h
theorem Same.trans {H H1 H2 : Hp} (a : Same H H1) (b : Same H1 H2) : Same H H2 := fun c o h => b c o (a c o h)
theorem Same.free {H H' : Hp} (e : Same H H') {l : Addr} (h : H' l = Option.none) : H l = Option.none := by
  cases q : H l with
  | none => rfl
  | some o =>
    rw [e l o q] at h
    cases h
theorem Same.seq {K : PySem.W.Frag} {H H' : Hp} {a : Addr} {xs : List V} (e : Same H H') (h : SqL K H a xs) : SqL K H' a xs := by
  rcases h with (h | ⟨o, h⟩) | h
  · exact .inl (.inl (e _ _ h))
  · exact .inl (.inr ⟨o, e _ _ h⟩)
  · exact .inr h
end L2
set_option Elab.async false
set_option linter.all false
set_option maxRecDepth 100000
set_option maxHeartbeats 16000000
namespace L2
open PySem PySem.Spec PyProof.Rows
section
variable {X : Cx} {pins : List (Addr × Obj)} {σ : List (Option V)} {H : Hp} {s : Shared} {h' : Heap}
theorem Inv.turnedL {t' : Nat} {ch : List Addr} (I : Inv X pins σ H s) (k : ∀ b o, b ∉ ch → s.heap.get? b = some o → h'.get? b = some o) (hf : ∀ b ∈ ch, FpOk X pins H b) :
    Inv X pins σ H { s with heap := h', toks := t' } := by
  have nit : ∀ b u, H b = some u → b ∉ ch := fun b u e z => by rw [(hf b z).1] at e; cases e
  refine I.step (g' := s.gens) (d' := s.drawn) (ch := ch) (fun b hb => ?_) (fun b o _ _ hc e _ => k b o hc e) (fun b o _ _ hc e _ => ⟨o.slots, k b o hc e⟩) (fun _ _ _ _ n => n)
    (fun b o hc e => ⟨o, k b o hc e⟩) (fun _ _ e => e) (fun _ _ _ e => e) (fun b ps e => ⟨#[], by rw [e]; simp⟩) (fun m hm => ?_) (fun b u e => ?_) I.bare
  · obtain ⟨_, h1, _, h2, h3, h4⟩ := hf b hb
    exact ⟨h2, h1, h3, h4⟩
  · obtain ⟨o, es, ep, ho, r⟩ := hm
    exact ⟨o, es, ep, k _ o (fun z => (hf _ z).2.1 rfl) ho, r⟩
  · refine (I.hok b u e).stay (fun c v hc q => k c v ?_ q) (fun _ q => q) fun _ _ q => q
    rcases hc with z | z
    · rw [z]; exact nit b u e
    · exact nit c _ z
theorem Inv.track {T : Addr} {o : HO} (I : Inv X pins σ H s) (hf : FpOk X pins H T) (new : ObjOk X.prog X.w (upd H T o) s.heap T o) : Inv X pins σ (upd H T o) s := by
  obtain ⟨h0, h1, h5, h2, h3, h4⟩ := hf
  have nT : ∀ b u, H b = some u → b ≠ T := fun b u e z => by rw [z, h0] at e; cases e
  refine I.step (h' := s.heap) (g' := s.gens) (d' := s.drawn) (t' := s.toks) (ch := [T]) (fun b hb => ?_) (fun b o _ _ hc e _ => e) (fun b o _ _ hc e _ => ⟨o.slots, e⟩)
    (fun b o hc _ n => by rw [upd_ne (fun z => hc (by simp [z]))]; exact n)
    (fun b o hc e => ⟨o, e⟩) (fun b xs e => by rw [upd_ne (nT _ _ e)]; exact e) (fun b ob u e => by rw [upd_ne (nT _ _ e)]; exact e) (fun b ps e => ⟨#[], by rw [upd_ne (nT _ _ e), e]; simp⟩) (fun m hm => hm) (fun b u e => ?_) I.bare
  · have e : b = T := by simpa using hb
    subst e
    exact ⟨h2, h1, h3, h4⟩
  · by_cases hb : b = T
    · subst hb; rw [upd_same] at e; cases e; exact new
    · rw [upd_ne hb] at e
      exact (I.hok b u e).stay (fun c v _ q => q) (fun c q => by rw [upd_ne (nT _ _ q)]; exact q) fun c xs q => by rw [upd_ne (nT _ _ q)]; exact q
end
section
variable {X : Cx}
theorem call_isinst : CallR X (.builtin "isinstance") (fun xs H Q => ∃ x t T b, xs = [x, .ty T] ∧ TyOf X.K H x t ∧ PySem.W.kitOne X.K t (.type T) = some b ∧ Q (.bl b) H) := by
  intro pins s σ H xs us Q I r h
  obtain ⟨x, t, T, b, rfl, ty, e, q⟩ := h
  obtain ⟨u, w', rfl, rx, ry⟩ := vals2 r
  cases (show w' = Value.type T from ry)
  exact isinst_ok I rx ty e fun tk => ⟨.bl b, H, I.tok _, rfl, q⟩
theorem call_str_str : CallR X (.type "str") (fun xs H Q => ∃ x, xs = [.str x] ∧ Q (.str x) H) := by
  intro pins s σ H xs us Q I r h
  obtain ⟨x, rfl, q⟩ := h
  obtain ⟨u, rfl, t, rfl⟩ := vals1 r
  exact PySem.P.str_of_str ⟨.str x, H, I, ⟨_, rfl⟩, q⟩
noncomputable def rCatA (K : PySem.W.Frag) : R2 := fun x y H Q => ∃ a b xs ys, x = .ref a ∧ y = .ref b ∧ SqT K H a xs ∧ SqT K H b ys ∧ xs.length + ys.length ≤ sizeLine ∧
  (xs = [] → Q (.ref b) H) ∧ (xs ≠ [] → ys = [] → Q (.ref a) H) ∧ (xs ≠ [] → ys ≠ [] → ∀ p, H p = none → Q (.ref p) (upd H p (.tup (xs ++ ys))))
theorem op_catA : OpR X (binaryOp .Add) (rCatA X.K) := by
  intro pins s σ H x y v u Q I rx ry h
  obtain ⟨a, b, xs, ys, rfl, rfl, ha, hb, hz, q0, q1, q2⟩ := h
  cases rx
  cases ry
  by_cases hx : xs = []
  · obtain ⟨its, r1, p1, _⟩ := I.tuple ha
    obtain ⟨its2, r2, p2, _⟩ := I.tuple hb
    obtain ⟨⟨cls, dd, data, sl⟩, ho, hc, n, hd⟩ := id p1
    obtain ⟨⟨cls2, dd2, data2, sl2⟩, ho2, hc2, n2, hd2⟩ := id p2
    simp only at hc hd hc2 hd2
    subst hc hd hc2 hd2
    have hv : its = [] := r1.nil_iff.mpr hx
    exact concat_meets ⟨_, ho, rfl⟩ ⟨_, ho2, rfl⟩ noFill_tuple_add seq_tuple_add PySem.F.slot_tuple_add PySem.F.entry_tuple_add (PySem.F.args_tuple_add_2 _ _)
      (tuple_addW0 a b its.toArray its2.toArray n n2 dd dd2 sl sl2 (by simp [hv])) ⟨ho, ho2, ⟨.ref b, H, I, rfl, q0 hx⟩⟩
  · exact op_catT pins s σ H (.ref a) (.ref b) (.ref a) (.ref b) Q I rfl rfl ⟨a, b, xs, ys, rfl, rfl, ha, hb, hx, hz, q1 hx, q2 hx⟩
theorem eqV_refl : ∀ {x : V}, flatV x = true → eqV x x = true
  | .non, _ => by rfl
  | .bl b, _ => by simp [eqV]
  | .int i, _ => by simp [eqV]
  | .str z, _ => by simp [eqV]
  | .byt _, h => by first | exact absurd (show false = true from h) Bool.false_ne_true | simp [eqV]
  | .flt _, h => by first | exact absurd (show false = true from h) Bool.false_ne_true | simp [eqV]
  | .ref _, h => by first | exact absurd (show false = true from h) Bool.false_ne_true | simp [eqV]
  | .ty _, h => by first | exact absurd (show false = true from h) Bool.false_ne_true | simp [eqV]
end
end L2
namespace ET
open PySem PySem.Spec
open PySem.AutoSeq1 (wpAny_loadPart')
section
variable {prog : Program} {w : World} {A : Around} {E : Value → Shared → Prop} {s : Shared}
theorem nextOf_tuple_item {it l : Addr} {i : Nat} {items : Array Value} {x : Value} {Q : Value → Shared → Prop} (hit : s.heap.IsTupleIter it l i)
    (hl : s.heap.IsTuple l items) (hx : items[i]? = some x)
    (hQ : ∀ h', h'.IsTupleIter it l (i + 1) → Heap.SameBut it s.heap h' → Q x { s with heap := h' }) :
    wpAny (model prog w) A (Builtin.SmallTypes.nextOf (.ref it)) Q E s := by
  obtain ⟨o, ho, hc, hd⟩ := id hit
  obtain ⟨ol, hol, _, nl, hdl⟩ := hl
  unfold Builtin.SmallTypes.nextOf
  refine wpAny_bind (wpAny_callSpecial?_slot (name := Str.ofString "__next__") hit.typeIs F.slot_tuple_iterator_next
    (wpAny_call_entry F.slot_tuple_iterator_next hit.typeIs F.entry_tuple_iterator_next ?_ (F.args_tuple_iterator_next_1 _)))
  show wpAny _ _ (field (.ref it) 0 >>= _) _ _ s
  refine wpAny_bind (wpAny_field ho hd (x := .ref l) rfl ?_)
  show wpAny _ _ (if (Value.ref l == Value.none) = true then _ else _) _ _ s
  rw [if_neg (show ¬ ((Value.ref l == Value.none) = true) from Bool.false_ne_true)]
  show wpAny _ _ (field (.ref it) 1 >>= _) _ _ s
  refine wpAny_bind (wpAny_field ho hd (x := .int i 0) rfl ?_)
  show wpAny _ _ (seqItems? (.ref l) >>= _) _ _ s
  refine wpAny_bind (wpAny_seqItems hol hdl ?_)
  simp only [Int.toNat_natCast, hx]
  refine wpAny_bind (wpAny_setField ho hd (by simp) (wpAny_pure ⟨x, rfl, wpAny_pure (hQ _ ?_ (Heap.SameBut.update ..))⟩))
  exact ⟨_, Heap.get?_update_self _ ho (Obj.isFreed_of_fields (Obj.data_mapFields hd _)), (Obj.cls_mapFields ..).trans hc, by
    rw [Obj.data_mapFields hd]; simp [rawInt]⟩
theorem nextOf_tuple_end {it l : Addr} {i : Nat} {items : Array Value} {Q : Value → Shared → Prop} (hh : A.handled = none)
    (hit : s.heap.IsTupleIter it l i) (hl : s.heap.IsTuple l items) (hx : items[i]? = none)
    (hE : ∀ h' e, Heap.ExtBut it s.heap h' → (∃ o, h'.get? e = some o ∧ o.cls = .type "StopIteration") → E (.ref e) { s with heap := h' }) :
    wpAny (model prog w) A (Builtin.SmallTypes.nextOf (.ref it)) Q E s := by
  obtain ⟨o, ho, hc, hd⟩ := id hit
  obtain ⟨ol, hol, _, nl, hdl⟩ := hl
  unfold Builtin.SmallTypes.nextOf
  refine wpAny_bind (wpAny_callSpecial?_slot (name := Str.ofString "__next__") hit.typeIs F.slot_tuple_iterator_next
    (wpAny_call_entry F.slot_tuple_iterator_next hit.typeIs F.entry_tuple_iterator_next ?_ (F.args_tuple_iterator_next_1 _)))
  show wpAny _ _ (field (.ref it) 0 >>= _) _ _ s
  refine wpAny_bind (wpAny_field ho hd (x := .ref l) rfl ?_)
  show wpAny _ _ (if (Value.ref l == Value.none) = true then _ else _) _ _ s
  rw [if_neg (show ¬ ((Value.ref l == Value.none) = true) from Bool.false_ne_true)]
  show wpAny _ _ (field (.ref it) 1 >>= _) _ _ s
  refine wpAny_bind (wpAny_field ho hd (x := .int i 0) rfl ?_)
  show wpAny _ _ (seqItems? (.ref l) >>= _) _ _ s
  refine wpAny_bind (wpAny_seqItems hol hdl ?_)
  simp only [Int.toNat_natCast, hx]
  refine wpAny_bind (wpAny_rule (wpAny_bind (wpAny_setField ho hd (by simp) ?_)))
  show wpAny _ _ (newExc (.type "StopIteration") [] >>= _) _ _ _
  refine wpAny_bind ?_
  simp only [newExc, newTuple]
  refine wpAny_bind (wpAny_newObj_type ?_ (by size_fits))
  refine wpAny_bind (m := firstArgMember _ _) (wpAny_of_eq (a := Value.none) (by first | rfl | (simp only [firstArgMember]; rfl)) ?_)
  refine wpAny_newObj_type ?_ (by size_fits)
  simp only [raiseNew]
  refine wpAny_bind (wpAny_handled ?_)
  first | rw [show A.in1.handled = none from hh] | rw [hh]
  refine wpAny_bind (wpAny_pure (wpAny_throw ?_))
  exact hE _ _ (((Heap.SameBut.update ..).extBut.push _).push _) ⟨_, Heap.get?_push_size _ rfl, rfl⟩
end
theorem draws_tuple {prog : Program} {w : World} {A : Around} (hh : A.handled = none) (it l : Addr) (hne : l ≠ it) (items : Array Value) :
    Draws prog w A it [it, l] items.size (fun i v => items[i]? = some v) (fun i h => h.IsTupleIter it l i ∧ h.IsTuple l items) where
  live := fun _ _ st => let ⟨o, ho, _⟩ := st.1; ⟨o, ho⟩
  frame := fun _ _ _ st hk => ⟨let ⟨o, ho, r⟩ := st.1; ⟨o, hk it (by simp) o ho, r⟩, let ⟨o, ho, r⟩ := st.2; ⟨o, hk l (by simp) o ho, r⟩⟩
  item := fun i s Q E hi st hQ => by
    refine nextOf_tuple_item st.1 st.2 (x := items[i]) (by simp [hi]) fun h' hit' hs' => ?_
    exact hQ _ h' s.toks (by simp [hi]) ⟨hit', st.2.extBut hs'.extBut hne⟩ hs'
  done := fun s Q E st hE => nextOf_tuple_end hh st.1 st.2 (by simp) hE
theorem meets_enumerate_newT (l : Addr) (items : Array Value) (n : Nat) (dct : Option Addr) (sl : Array (Option Value)) :
    Meets (Builtin.«enumerate.__new__» ⟨[.type "enumerate", .ref l], []⟩) (fun _ R s => s.heap.get? l = some { cls := .type "tuple", dict := dct, data := .seq items n, slots := sl } ∧
      R (.ok (.ret (.ref (s.heap.push { cls := .type "tuple_iterator", data := .fields #[.ref l, .int 0 0] }).objs.size)))
        { s with heap := (s.heap.push { cls := .type "tuple_iterator", data := .fields #[.ref l, .int 0 0] }).push { cls := .type "enumerate", data := .fields #[.none, .bool false, .ref s.heap.objs.size, rawInt 0, .none, .none] } }) :=
  .of_wp fun prog w A R s h => by
    obtain ⟨hp, g, d, tk, os⟩ := s; obtain ⟨hl, h⟩ := h
    have hsub := sub_enumerate
    have hL : Heap.IsTuple (Shared.heap ⟨hp, g, d, tk, os⟩) l items := ⟨_, hl, rfl, n, rfl⟩
    wp_walk using wpAny_loadPart' hl
    refine wpAny_stack_any fun st => wpAny_pure ?_
    split
    · rename_i c _ _ _ _ _
      cases (c == Value.type "enumerate")
      · wp_walk using wpAny_loadPart' hl, wpAny_pyIter_tuple hL
        exact ⟨_, rfl, h⟩
      · wp_walk using wpAny_loadPart' hl, wpAny_pyIter_tuple hL
        exact ⟨_, rfl, h⟩
    · wp_walk using wpAny_loadPart' hl, wpAny_pyIter_tuple hL
      exact ⟨_, rfl, h⟩
theorem call_enumerate_tuple {prog : Program} {w : World} {A : Around} {E : Value → Shared → Prop} {s : Shared} {l : Addr} {items : Array Value} {Q : Value → Shared → Prop} (hL : s.heap.IsTuple l items)
    (h : ∀ h', IsEnum h' (s.heap.objs.size + 1) s.heap.objs.size 0 .none → h'.IsTupleIter s.heap.objs.size l 0 → h'.objs.size = s.heap.objs.size + 2 →
      (∀ b o, s.heap.get? b = some o → h'.get? b = some o) → Q (.ref (s.heap.objs.size + 1)) { s with heap := h' }) :
    wpAny (model prog w) A (call (.type "enumerate") [.ref l]) Q E s := by
  obtain ⟨⟨c, dct, dt, sl⟩, hl, hc, n, hd⟩ := hL
  replace hc : c = .type "tuple" := hc
  replace hd : dt = .seq items n := hd
  subst hc hd
  refine callType_new F.called_enumerate (by decide) (F.typeCall_enumerate_1 _) (F.newCall_enumerate_1 _) (fun obj => F.args_object_init_2 obj _) F.entry_enumerate_new
    (meets_enumerate_newT l items n dct sl) ⟨hl, ?_⟩
  have hz : (s.heap.push { cls := .type "tuple_iterator", data := .fields #[.ref l, .int 0 0] }).objs.size = s.heap.objs.size + 1 := Heap.size_push ..
  show _ ∧ _
  rw [hz]
  have he : IsEnum ((s.heap.push { cls := .type "tuple_iterator", data := .fields #[.ref l, .int 0 0] }).push
      { cls := .type "enumerate", data := .fields #[.none, .bool false, .ref s.heap.objs.size, rawInt 0, .none, .none] }) (s.heap.objs.size + 1) s.heap.objs.size 0 .none := by
    have := Heap.get?_push_size (s.heap.push { cls := .type "tuple_iterator", data := .fields #[.ref l, .int 0 0] })
      (o := { cls := .type "enumerate", data := .fields #[.none, .bool false, .ref s.heap.objs.size, rawInt 0, .none, .none] }) rfl
    rw [hz] at this; exact this
  refine ⟨⟨_, he, rfl⟩, h _ he ⟨_, Heap.get?_push_of_some _ (Heap.get?_push_size _ rfl), rfl, rfl⟩ (by rw [Heap.size_push, hz]) fun b o x => Heap.get?_push_of_some _ (Heap.get?_push_of_some _ x)⟩
end ET
namespace L2
open PySem PySem.Spec PyProof.Rows
noncomputable def Ite (K : PySem.W.Frag) (a : Addr) : It :=
  ⟨fun i H => ∃ xs x, SqT K H a xs ∧ xs[i]? = some x,
   fun i H x H' => ∃ p v, (∀ xs, SqT K H a xs → xs[i]? = some v) ∧ H p = none ∧ x = .ref p ∧ H' = upd H p (.tup [.int i, v]),
   fun i H => ∃ xs, SqT K H a xs ∧ xs.length = i⟩
theorem turn_enumT {P : Program} {w : World} {K : PySem.W.Frag} {elts : List Expr} {k : Nat} {pos : Pos} (a e it : Addr) (hei : e ≠ it) :
    Turn P w K (.Tuple elts k pos) (Ite K a) [e, it] e (fun i h => (∃ old, IsEnum h e it i old) ∧ h.IsTupleIter it a i) where
  mem := by simp
  obj := fun i h st b hb => by
    obtain ⟨⟨old, he⟩, o, ho, hc, hd⟩ := st
    rcases List.mem_cons.mp hb with z | hb
    · subst z
      exact ⟨_, he, fun v z => by
        have z' : Data.fields _ = Data.cell v := z
        cases z'⟩
    · obtain z := List.mem_singleton.mp hb
      subst z
      exact ⟨o, ho, fun v z => by rw [hd] at z; cases z⟩
  keep := fun i h h' st kk => by
    obtain ⟨⟨old, he⟩, o, ho, r⟩ := st
    exact ⟨⟨old, kk e (by simp) _ he⟩, o, kk it (by simp) o ho, r⟩
  item := by
    intro X hP hw hK hc i pins s σ H E I hf st hg
    subst hP hw hK
    obtain ⟨xs, x, hq, hx⟩ := hg
    obtain ⟨its, rv, p, hz⟩ := I.tuple hq
    obtain ⟨u, hu, ru⟩ := rv.get hx
    obtain ⟨⟨old, he⟩, hit⟩ := st
    have ht : s.heap.IsTuple a its.toArray := p
    have hai : a ≠ it := by
      intro z
      obtain ⟨o, ho, hc1, _⟩ := id hit
      obtain ⟨o2, ho2, hc2, _⟩ := id ht
      rw [z, ho] at ho2
      cases ho2
      rw [hc1] at hc2
      exact absurd hc2 (by decide)
    have hae : a ≠ e := by
      intro z
      obtain ⟨o2, ho2, hc2, _⟩ := id ht
      have he' := he
      unfold IsEnum at he'
      rw [z, he'] at ho2
      cases ho2
      exact absurd (show Value.type "enumerate" = Value.type "tuple" from hc2) (by decide)
    have D := ET.draws_tuple (prog := X.prog) (w := X.w) (A := X.A.in1) (show X.A.in1.handled = none from I.ok.hd hc) it a hai its.toArray
    have hef : e ∉ [it, a] := by
      intro z
      rcases List.mem_cons.mp z with z | z
      · exact hei z
      · exact hae (List.mem_singleton.mp z).symm
    have W := WalksT.enumerateD D e hei hef (by simp)
    have hlt : i < its.toArray.size := by
      have h1 := (List.getElem?_eq_some_iff.mp hu).1
      simpa using h1
    refine W.item i s _ _ hlt ⟨⟨old, he⟩, hit, ht⟩ fun T vals h' tk hP hT hTup hM hk => ?_
    obtain ⟨t, y, hy, rfl⟩ := hP
    have ey : y = u := by
      have : its[i]? = some y := by simpa using hy
      rw [hu] at this
      exact (Option.some.inj this).symm
    subst ey
    have I1 : Inv X pins σ H { s with heap := h', toks := tk } := I.turnedL (ch := [e, it]) hk hf
    have hHT : H T = none := I.hok.fresh hT
    have fT : FpOk X pins H T := I.fpOk hT hHT
    refine ⟨_, rfl, ?_⟩
    refine W.go elts k pos i T { s with heap := h', toks := tk } _ _ hM fun h2 st2 hk2 => ?_
    have I2' := I1.turnedL (h' := h2) (t' := tk) (ch := [e, it]) hk2 hf
    have I2 : Inv X pins σ H { s with heap := h2, toks := tk } := I2'
    have hT2 : h2.IsTuple T #[.int i t, y] := by
      obtain ⟨o, ho, r⟩ := hTup
      exact ⟨o, hk2 T o (W.apart i T h' hM) ho, r⟩
    have I3 : Inv X pins σ (upd H T (.tup [.int i, x])) { s with heap := h2, toks := tk } :=
      I2.track fT ⟨by show 2 ≤ sizeLine; decide, [.int i t, y], .cons ⟨t, rfl⟩ (.cons ru .nil), hT2⟩
    refine ⟨.ref T, _, I3, rfl, ⟨T, x, fun ys hy' => by rw [I.tuple_inj hy' hq]; exact hx, hHT, rfl, rfl⟩, ⟨by simpa using st2.1, st2.2.1⟩, fun b hb => ?_⟩
    rw [upd_ne (fun z => W.apart i T h' hM (by rw [← z]; exact hb))]
    exact (hf b hb).1
  done := by
    intro X hP hw hK hc i pins s σ H E I hf st hg
    subst hP hw hK
    obtain ⟨xs, hq, hx⟩ := hg
    obtain ⟨its, rv, p, hz⟩ := I.tuple hq
    obtain ⟨⟨old, he⟩, hit⟩ := st
    have ht : s.heap.IsTuple a its.toArray := p
    have hai : a ≠ it := by
      intro z
      obtain ⟨o, ho, hc1, _⟩ := id hit
      obtain ⟨o2, ho2, hc2, _⟩ := id ht
      rw [z, ho] at ho2
      cases ho2
      rw [hc1] at hc2
      exact absurd hc2 (by decide)
    have hae : a ≠ e := by
      intro z
      obtain ⟨o2, ho2, hc2, _⟩ := id ht
      have he' := he
      unfold IsEnum at he'
      rw [z, he'] at ho2
      cases ho2
      exact absurd (show Value.type "enumerate" = Value.type "tuple" from hc2) (by decide)
    have D := ET.draws_tuple (prog := X.prog) (w := X.w) (A := X.A.in1) (show X.A.in1.handled = none from I.ok.hd hc) it a hai its.toArray
    have hef : e ∉ [it, a] := by
      intro z
      rcases List.mem_cons.mp z with z | z
      · exact hei z
      · exact hae (List.mem_singleton.mp z).symm
    have W := WalksT.enumerateD D e hei hef (by simp)
    have hl := rv.length
    have hn : i = its.toArray.size := by simp; omega
    refine W.done s _ _ ⟨⟨old, by rw [← hn]; exact he⟩, by rw [← hn]; exact hit, ht⟩ fun h' tk hk => ⟨rfl, ?_⟩
    exact I.turnedL (ch := [e, it]) hk hf
  self := fun _ _ _ _ _ st h => by
    obtain ⟨⟨old, he⟩, _⟩ := st
    exact wpAny_pyIter_enum he h
section
variable {X : Cx} {elts : List Expr} {k : Nat} {tpos : Pos}
noncomputable def iEnum (K : PySem.W.Frag) (ta : TA) : TI := fun σ H R => ta σ H fun vs H1 => ∃ a, vs = [.ref a] ∧ (∃ xs, SqT K H1 a xs) ∧ R (Ite K a) H1
theorem pi_enumT {a : Expr} {ta : TA} {p pos : Pos} (hg : Gl X "enumerate") (hm : X.mg "enumerate" = none) (ha : PA X [a] ta) (hs : starEach [a] X.env = [(false, eval a X.env)] := by rfl) :
    PI X (.Tuple elts k tpos) (.Call (.Name "enumerate" p) [a] [] pos) (iEnum X.K ta) := by
  intro pins s σ H R I h
  refine Call_ (ld_blt I hg hm boot_enumerate (PyProof.Rows.callWith_type1 (thn (ha pos pins s σ H _ I h) fun us s1 ⟨vs, H1, I1, r1, q1⟩ => ?_) hs rfl))
  obtain ⟨a, e, ⟨xs, hq⟩, q⟩ := q1
  subst e
  cases r1 with
  | cons r rr =>
    cases rr
    cases r
    obtain ⟨its, rv, p, hz⟩ := I1.tuple hq
    refine ET.call_enumerate_tuple (show s1.heap.IsTuple a its.toArray from p) fun h' he hit hsz hk => ?_
    have I2 : Inv X pins σ H1 { s1 with heap := h' } := I1.kept (t' := s1.toks) hk
    refine wpAny_pyIter_enum he ?_
    refine ⟨s1.heap.objs.size + 1, [s1.heap.objs.size + 1, s1.heap.objs.size], _, _, H1, rfl, I2, turn_enumT a (s1.heap.objs.size + 1) s1.heap.objs.size (Nat.succ_ne_self _), ⟨⟨_, he⟩, hit⟩, fun b hb => ?_, q⟩
    have hb' : s1.heap.objs.size ≤ b := by
      rcases List.mem_cons.mp hb with z | z
      · rw [z]; exact Nat.le_succ _
      · rw [List.mem_singleton.mp z]; exact Nat.le_refl _
    exact I1.fpOk hb' (I1.hok.fresh hb')
end
theorem for_enum {K : PySem.W.Frag} {a : Addr} {xs : List V} {g : TG} {tb : TS} {D : Ends} {σ : St} {H : Hp} (Pv : Nat → St → Hp → Prop) (h0 : Pv 0 σ H) (hl : ∀ i σ H, i ≤ xs.length → Pv i σ H → SqT K H a xs)
    (hs : ∀ i x p σ H, xs[i]? = some x → Pv i σ H → H p = none → g (.ref p) σ (upd H p (.tup [.int i, x])) fun σ2 H2 => tb { D with nx := Pv (i + 1), ct := Pv (i + 1), bk := D.nx } σ2 H2) (hd : ∀ σ H, Pv xs.length σ H → D.nx σ H) :
    ∃ W : Nat → Nat → St → Hp → Prop, (∃ m, W 0 m σ H) ∧ ∀ i m σ H, W i m σ H →
      ((Ite K a).stop i H ∧ D.nx σ H) ∨ ((Ite K a).go i H ∧ ∃ N : St → Hp → Prop, (∀ σ' H', N σ' H' → ∃ m', m' < m ∧ W (i + 1) m' σ' H') ∧ ∀ x H', (Ite K a).yld i H x H' → g x σ H' fun σ2 H2 => tb { D with nx := N, ct := N, bk := D.nx } σ2 H2) := by
  refine ⟨fun i m σ H => m = xs.length - i ∧ i ≤ xs.length ∧ Pv i σ H, ⟨xs.length, by simp, Nat.zero_le _, h0⟩, ?_⟩
  rintro i m σ H ⟨rfl, hi, p⟩
  have q := hl i σ H hi p
  by_cases hlt : i < xs.length
  · refine .inr ⟨⟨xs, xs[i], q, by simp [hlt]⟩, Pv (i + 1), fun σ' H' p' => ⟨xs.length - (i + 1), by omega, rfl, hlt, p'⟩, fun x H' y => ?_⟩
    obtain ⟨pp, v, y, hn, e1, e2⟩ := y
    subst e1 e2
    exact hs i v pp σ _ (y xs q) p hn
  · have e : i = xs.length := by omega
    subst e
    exact .inl ⟨⟨xs, q, rfl⟩, hd σ H p⟩
end L2
set_option Elab.async false
set_option linter.all false
set_option maxRecDepth 100000
set_option maxHeartbeats 16000000
namespace L2
open PySem PySem.Spec PyProof.Rows
structure Cl (P : Program) (w : World) (K : PySem.W.Frag) (mg : Str → Option Value) (base : Heap) (k : Nat) (x : Str) (ps : List Str) (sp : Sp) : Prop where
  ex : ∃ f fd, FnOk P w K mg base CX0 k f fd ps sp ∧ mg x = some (.ref f) ∧ PySem.W.keepIn K (.ref f) = true ∧ Binds K fd ps []
theorem pe_fn {X : Cx} {j k : Nat} {x : Str} {ps : List Str} {sp : Sp} {e : Expr} {es : List Expr} {t : TA} {p pos : Pos} (C : Cl X.prog X.w X.K X.mg X.base j x ps sp) (hr : Room k X.A) (hg : Gl X x) (ha : PA X (e :: es) t) (hjk : j ≤ k := by decide)
    (hdb : (x == ("__debug__" : Str)) = false := by decide) (he : starEach (e :: es) X.env = (false, eval e X.env) :: starEach es X.env := by rfl) (hpl : (backTo pos (starEach es X.env)).any (·.1) = false := by rfl) :
    PE X (.Call (.Name x p) (e :: es) [] pos) (tCall sp [] E0 t) := by
  obtain ⟨f, fd, F, hm, hk, hb⟩ := C.ex
  exact pe_call F (hr.mono hjk) hg hm hk hb .nil pass0 ha hdb he hpl
noncomputable def HasDef (K : PySem.W.Frag) (mg : Str → Option Value) (x : Str) (st : Stmt) : Prop := ∃ f fd, Fun K x x st f fd ∧ mg x = some (.ref f)
theorem hasDef_mk {K : PySem.W.Frag} {mg : Str → Option Value} {h : Heap} {x : Str} {st : Stmt} {f : Addr} {oc : Value} {od an : Option Addr} {osl : Array (Option Value)} {kV doc pm cdv ct : Value} (X : K.In h) (G : h.Ns mainGlobals mg)
    (a : PySem.W.nsIn K mainGlobals x = some (some (.ref f))) (l : K.lookup f = some ⟨oc, od, .func (PySem.W.fnOf x x (defArgs st) (defBody st) (defScope st) .none kV doc pm an cdv ct), osl⟩)
    (c : PySem.W.codeIn K cdv x = true) (k : PySem.W.keepIn K (.ref f) = true) : HasDef K mg x st :=
  ⟨f, _, fun_mk l c k, PySem.W.mg_of X G a⟩
theorem Cl.of {P : Program} {w : World} {K : PySem.W.Frag} {mg : Str → Option Value} {base : Heap} {x : Str} {st : Stmt} {N ps : List Str} {k : Nat} {sp : Sp} (T : HasDef K mg x st) (S : FnScope N ps (defScope st)) (len : ∀ vs H Q E, sp vs H Q E → vs.length = ps.length)
    (hb : ∀ (kV doc pm : Value) (an : Option Addr) (cdv ct : Value) (us : List Value), us.length = ps.length → bindArgs (PySem.W.fnOf x x (defArgs st) (defBody st) (defScope st) .none kV doc pm an cdv ct) ⟨us, []⟩ = pure (ps.zip us))
    (hbody : ∀ (f : Addr) (cdv : Value) (A : Around) (outer : List Env) (s : Shared) (H : Hp) (vs : List V) (Q : VK) (E : XK), Room k (A.deeper (envOfC x (defScope st) s.heap.objs.size f cdv)) → sp vs H Q E →
      ∃ t, PSs (cxOf CX0 P w K mg base N x (defScope st) f cdv A outer s H E).nox (defBody st) t ∧ t { nx := fun _ H' => Q .non H', rt := Q } (start N vs) H) : Cl P w K mg base (k + 1) x ps sp := by
  obtain ⟨f, fd, F, m⟩ := T
  exact ⟨f, fd, F.ok S len (fun cdv A outer s H vs Q E => hbody f cdv A outer s H vs Q E), m, F.kp, F.binds hb⟩
noncomputable def Tups (H H' : Hp) : Prop := ∀ b xs, H b = some (.tup xs) → H' b = some (.tup xs)
section
variable {H H1 H2 : Hp} {l p : Addr} {o : HO} {xs ys : List V}
theorem Same.tups (e : Same H H1) : Tups H H1 := fun b xs q => e b _ q
theorem Tups.refl (H : Hp) : Tups H H := fun _ _ q => q
theorem Tups.trans (a : Tups H H1) (b : Tups H1 H2) : Tups H H2 := fun c xs q => b c xs (a c xs q)
theorem Tups.lst (h : H l = some (.lst xs)) : Tups H (upd H l (.lst ys)) := fun b zs q => by
  rw [upd_ne (ne_of q h (by intro z; cases z))]; exact q
theorem Tups.new (h : H p = none) : Tups H (upd H p o) := fun b zs q => by
  rw [upd_ne (ne_of_none q h)]; exact q
theorem Same.put (s : Same H H1) (h : H l = none) : Same H (upd H1 l o) := fun b u q => by
  rw [upd_ne (ne_of_none q h)]; exact s b u q
theorem Same.new (s : Same H H1) (h : H1 p = none) : Same H (upd H1 p o) := s.put (s.free h)
theorem upd_keep {u : HO} (h : H l = some u) (hp : H p = none) : upd H p o l = some u := by
  rw [upd_ne (ne_of_none h hp)]; exact h
end
theorem atI_getD {α : Type} (xs : List α) (d : α) {i : Int} (h0 : 0 ≤ i) (h1 : i < (xs.length : Int)) : atI xs i = some (xs.getD i.toNat d) := by
  have e : i = ((i.toNat : Nat) : Int) := by omega
  have hl : i.toNat < xs.length := by omega
  have hx : xs[i.toNat]? = some (xs.getD i.toNat d) := by
    rw [List.getD_eq_getElem?_getD]
    simp [hl]
  have := atI_nat hx
  rw [← e] at this
  exact this
theorem atI_map {α : Type} (f : α → V) (xs : List α) (d : α) {i : Int} (h0 : 0 ≤ i) (h1 : i < (xs.length : Int)) : atI (xs.map f) i = some (f (xs.getD i.toNat d)) := by
  have := atI_getD (xs.map f) (f d) h0 (by simpa using h1)
  rw [this, List.getD_eq_getElem?_getD, List.getElem?_map, List.getD_eq_getElem?_getD]
  have hl : i.toNat < xs.length := by omega
  simp [hl]
theorem iteSE {x : Str} {A B : Prop} (h : A) : if decide (V.str x = V.str x) = true then A else B := by
  rw [if_pos (decide_eq_true rfl)]; exact h
theorem iteSN {x y : Str} {A B : Prop} (e : ¬ x = y) (h : B) : if decide (V.str x = V.str y) = true then A else B := by
  rw [if_neg (by rw [decide_eq_false (fun q => e (V.str.inj q))]; exact Bool.false_ne_true)]; exact h
theorem ite2I {i j : Int} {A B : Prop} (h1 : i = j → A) (h2 : ¬ i = j → B) : if decide (V.int i = V.int j) = true then A else B :=
  ite2 (fun h => h1 (V.int.inj (of_decide_eq_true h))) fun h => h2 fun e => h (decide_eq_true (congrArg V.int e))
theorem iteDP {p : Prop} [Decidable p] {A B : Prop} (hp : p) (h : A) : if decide p = true then A else B := by
  rw [if_pos (decide_eq_true hp)]; exact h
theorem iteDN {p : Prop} [Decidable p] {A B : Prop} (hp : ¬ p) (h : B) : if decide p = true then A else B := by
  rw [if_neg (by rw [decide_eq_false hp]; exact Bool.false_ne_true)]; exact h
theorem kit_same (K : PySem.W.Frag) (T : String) : PySem.W.kitOne K (.type T) (.type T) = some true := by
  unfold PySem.W.kitOne
  rw [if_pos (by simp)]
theorem kit_int_str (K : PySem.W.Frag) : PySem.W.kitOne K (.type "int") (.type "str") = some false := by kernel_rfl
theorem kit_int_bool (K : PySem.W.Frag) : PySem.W.kitOne K (.type "int") (.type "bool") = some false := by kernel_rfl
noncomputable def isLet (c : Nat) : Bool := decide (97 ≤ c) && decide (c ≤ 122)
noncomputable def isFig (c : Nat) : Bool := decide (48 ≤ c) && decide (c ≤ 57)
noncomputable def isSg (c : Nat) : Bool := isLet c || isFig c
noncomputable def isNm : List Nat → Bool
  | [] => false
  | c :: r => isLet c && r.all isSg && decide (r.length ≤ 7)
noncomputable def NameOk (x : Str) : Prop := isNm x.cps.toList = true
noncomputable instance (x : Str) : Decidable (NameOk x) := inferInstanceAs (Decidable (_ = true))
inductive Th where
  | num (n : Int)
  | nam (x : Str)
noncomputable def thV : Th → V
  | .num n => .int n
  | .nam x => .str x
noncomputable def ThOk : Th → Prop
  | .num n => 0 ≤ n ∧ n < 10 ^ 60
  | .nam x => NameOk x
noncomputable def TermAt (H : Hp) (v : V) (t : Int × Th) : Prop := ∃ p, v = .ref p ∧ H p = some (.tup [.int t.1, thV t.2]) ∧ ThOk t.2
noncomputable abbrev Terms (H : Hp) : List V → List (Int × Th) → Prop := Paired (TermAt H)
theorem Paired.get? {α β : Type} {F : α → β → Prop} : ∀ {xs : List α} {ys : List β} {i : Nat} {x : α}, Paired F xs ys → xs[i]? = some x → ∃ y, ys[i]? = some y ∧ F x y
  | _, _, _, _, .nil, e => by simp at e
  | _, _, 0, _, .cons r _, e => by simp at e; subst e; exact ⟨_, rfl, r⟩
  | _, _, i + 1, x, .cons _ t, e => by
    obtain ⟨u, h1, h2⟩ := Paired.get? (i := i) (x := x) t (by simpa using e)
    exact ⟨u, by simpa using h1, h2⟩
theorem TermAt.mono {H H' : Hp} (s : Tups H H') {v : V} {t : Int × Th} (h : TermAt H v t) : TermAt H' v t := by
  obtain ⟨p, e, h, o⟩ := h
  exact ⟨p, e, s p _ h, o⟩
theorem Terms.mono {H H' : Hp} (s : Tups H H') {vs : List V} {ts : List (Int × Th)} (h : Terms H vs ts) : Terms H' vs ts := Paired.mapP h fun _ _ q => q.mono s
structure TermsAt (H : Hp) (t : Addr) (ts : List (Int × Th)) : Prop where
  ex : ∃ vs, H t = some (.tup vs) ∧ Terms H vs ts
  lo : 1 ≤ ts.length
  hi : ts.length ≤ 6
theorem TermsAt.mono {H H' : Hp} (s : Tups H H') {t : Addr} {ts : List (Int × Th)} (h : TermsAt H t ts) : TermsAt H' t ts := by
  obtain ⟨⟨vs, h1, h2⟩, lo, hi⟩ := h
  exact ⟨⟨vs, s t _ h1, h2.mono s⟩, lo, hi⟩
noncomputable def NameAt (H : Hp) (v : V) (d : Int × Str) : Prop := ∃ p, v = .ref p ∧ H p = some (.tup [.int d.1, .str d.2])
noncomputable abbrev Names (H : Hp) : List V → List (Int × Str) → Prop := Paired (NameAt H)
theorem NameAt.mono {H H' : Hp} (s : Tups H H') {v : V} {t : Int × Str} (h : NameAt H v t) : NameAt H' v t := by
  obtain ⟨p, e, h⟩ := h
  exact ⟨p, e, s p _ h⟩
theorem Names.mono {H H' : Hp} (s : Tups H H') {vs : List V} {ts : List (Int × Str)} (h : Names H vs ts) : Names H' vs ts := Paired.mapP h fun _ _ q => q.mono s
noncomputable def namesOf : Int → List (Int × Th) → List (Int × Str)
  | _, [] => []
  | k, (_, .num _) :: r => namesOf (k + 2) r
  | k, (_, .nam x) :: r => (k, x) :: namesOf (k + 2) r
theorem namesOf_append : ∀ (ts us : List (Int × Th)) (k : Int), namesOf k (ts ++ us) = namesOf k ts ++ namesOf (k + 2 * ts.length) us
  | [], us, k => by simp [namesOf]
  | (s, .num n) :: r, us, k => by
    have e : k + 2 + 2 * (r.length : Int) = k + 2 * (((s, Th.num n) :: r).length : Int) := by simp; omega
    show namesOf (k + 2) (r ++ us) = namesOf (k + 2) r ++ namesOf (k + 2 * (((s, Th.num n) :: r).length : Int)) us
    rw [namesOf_append r us (k + 2), e]
  | (s, .nam x) :: r, us, k => by
    have e : k + 2 + 2 * (r.length : Int) = k + 2 * (((s, Th.nam x) :: r).length : Int) := by simp; omega
    show (k, x) :: namesOf (k + 2) (r ++ us) = (k, x) :: namesOf (k + 2) r ++ namesOf (k + 2 * (((s, Th.nam x) :: r).length : Int)) us
    rw [namesOf_append r us (k + 2), e]
    rfl
theorem namesOf_length : ∀ (ts : List (Int × Th)) (k : Int), (namesOf k ts).length ≤ ts.length
  | [], k => by simp [namesOf]
  | (s, .num n) :: r, k => by
    have := namesOf_length r (k + 2)
    show (namesOf (k + 2) r).length ≤ _
    simp only [List.length_cons]; omega
  | (s, .nam x) :: r, k => by
    have := namesOf_length r (k + 2)
    show ((k, x) :: namesOf (k + 2) r).length ≤ _
    simp only [List.length_cons]; omega
theorem take_succ_get {α : Type} {l : List α} {i : Nat} {x : α} (h : l[i]? = some x) : l.take (i + 1) = l.take i ++ [x] := by
  rw [List.take_succ, h]; rfl
end L2
set_option Elab.async false
set_option linter.all false
set_option maxRecDepth 100000
set_option maxHeartbeats 16000000
namespace L2
open PySem PySem.Spec PyProof.Rows
section
variable {X : Cx}
end
inductive StrsE : List Expr → List Str → Prop
  | nil : StrsE [] []
  | cons {x : Str} {j pos} {es : List Expr} {ys : List Str} (h : StrsE es ys) : StrsE (.Constant (.str x) j pos :: es) (x :: ys)
section
variable {X : Cx}
theorem pa_strs {es : List Expr} {ys : List Str} (h : StrsE es ys) : PA X es (fun _ H Q => Q (ys.map V.str) H) := by
  induction h with
  | nil => exact pa_nil
  | @cons x j pos es ys h ih =>
    exact pa_cons (es := es) (pe_str (x := x) (j := j) (pos := pos)) ih rfl
end
end L2
set_option Elab.async false
set_option linter.all false
set_option maxRecDepth 100000
set_option maxHeartbeats 16000000
namespace L2
open PySem PySem.Spec PyProof.Rows
noncomputable def closL (cells : List (Str × Addr)) : List (Str × NameKind) → List (Str × Addr) → List (Str × Addr)
  | [], cs => cs
  | (n, k) :: r, cs => closL cells r (if k == .free then (n, (cells.lookup n).getD 0) :: cs else cs)
theorem closL_pure {cells : List (Str × Addr)} {env : Env} (he : env.cells = cells) : ∀ (l : List (Str × NameKind)) (cs : List (Str × Addr)), (∀ y ∈ l, y.2 = .free → ∃ c, cells.lookup y.1 = some c) →
    (forIn l cs fun p cs => (do if p.2 == .free then (do let a ← cellOf env p.1; pure (ForInStep.yield ((p.1, a) :: cs))) else pure (ForInStep.yield cs) : Sem (ForInStep (List (Str × Addr))))) = pure (closL cells l cs) := by
  intro l
  induction l with
  | nil => intro cs _; rfl
  | cons p r ih =>
    intro cs h
    obtain ⟨n, k⟩ := p
    rw [List.forIn_cons]
    have hr : ∀ y ∈ r, y.2 = .free → ∃ c, cells.lookup y.1 = some c := fun y hy => h y (List.mem_cons_of_mem _ hy)
    by_cases hk : k = .free
    · subst hk
      obtain ⟨c, hc⟩ := h (n, .free) List.mem_cons_self rfl
      have hc' : env.cells.lookup n = some c := by rw [he]; exact hc
      have e : cellOf env n = pure c := by unfold cellOf; rw [hc']
      simp only [beq_self_eq_true, if_true, e, pure_bind]
      rw [ih _ hr]
      unfold closL
      rw [if_pos (by simp), show (cells.lookup n).getD 0 = c by rw [show cells.lookup n = some c from hc]; rfl]
      conv => rhs; unfold closL
    · have hb : (k == NameKind.free) = false := by simpa using hk
      simp only [hb, Bool.false_eq_true, if_false, pure_bind]
      rw [ih _ hr]
      conv => rhs; unfold closL
      rw [if_neg (by rw [hb]; exact Bool.false_ne_true)]
theorem closL_lookup {cells : List (Str × Addr)} {x : Str} {c : Addr} : ∀ (l : List (Str × NameKind)) (cs : List (Str × Addr)), (∀ y ∈ l, y.2 = .free → ∃ c, cells.lookup y.1 = some c) → (closL cells l cs).lookup x = some c → cells.lookup x = some c ∨ cs.lookup x = some c
  | [], cs, _, h => .inr h
  | (n, k) :: r, cs, hy, h => by
    unfold closL at h
    rcases closL_lookup r _ (fun y q => hy y (List.mem_cons_of_mem _ q)) h with h | h
    · exact .inl h
    · by_cases hk : k = .free
      · subst hk
        obtain ⟨c', hc⟩ := hy (n, .free) List.mem_cons_self rfl
        have hc : cells.lookup n = some c' := hc
        rw [if_pos (by simp), List.lookup_cons] at h
        split at h
        · rename_i e
          have e' : x = n := by simpa using e
          subst e'
          rw [hc] at h
          cases h
          exact .inl hc
        · exact .inr h
      · rw [if_neg (by simpa using hk)] at h
        exact .inr h
theorem closL_keep {cells : List (Str × Addr)} {x : Str} : ∀ (l : List (Str × NameKind)) (cs : List (Str × Addr)), (∃ c, cs.lookup x = some c) → ∃ c, (closL cells l cs).lookup x = some c
  | [], _, h => h
  | (n, k) :: r, cs, h => by
    unfold closL
    refine closL_keep r _ ?_
    split
    · rw [List.lookup_cons]
      split
      · exact ⟨_, rfl⟩
      · exact h
    · exact h
theorem closL_has {cells : List (Str × Addr)} {x : Str} : ∀ (l : List (Str × NameKind)) (cs : List (Str × Addr)), (x, NameKind.free) ∈ l → ∃ c, (closL cells l cs).lookup x = some c
  | (n, k) :: r, cs, h => by
    unfold closL
    rcases List.mem_cons.mp h with e | h
    · cases e
      refine closL_keep r _ ?_
      rw [if_pos (by simp), List.lookup_cons]
      simp
    · exact closL_has r _ h
theorem closure_pure {sc : Scope} {env : Env} (h : ∀ y ∈ sc.names, y.2 = .free → ∃ c, env.cells.lookup y.1 = some c) : closureFor sc env = pure (closL env.cells sc.names []) := by
  have := closL_pure (env := env) rfl sc.names [] h
  unfold closureFor
  simp only [bind_pure]
  exact this
theorem relabel_free {env : Env} {x : Str} : ∀ {names : List (Str × NameKind)}, names.lookup x = some .free →
    (names.map fun (n, k) => if (k == NameKind.free && env.scope.kind == .function && env.kindOf n == some .cell) then (n, NameKind.cell) else (n, k)).lookup x = some .cell ∨
    (names.map fun (n, k) => if (k == NameKind.free && env.scope.kind == .function && env.kindOf n == some .cell) then (n, NameKind.cell) else (n, k)).lookup x = some .free
  | [], h => by simp at h
  | (n, k) :: r, h => by
    have ih := @relabel_free env x r
    simp only [List.map_cons]
    by_cases hc : (k == NameKind.free && env.scope.kind == .function && env.kindOf n == some .cell) = true
    · rw [if_pos hc]
      simp only [List.lookup_cons] at h ⊢
      cases hx : x == n with
      | true => exact .inl rfl
      | false => simp only [hx] at h ⊢; exact ih h
    · rw [if_neg hc]
      simp only [List.lookup_cons] at h ⊢
      cases hx : x == n with
      | true => simp only [hx] at h ⊢; exact .inr h
      | false => simp only [hx] at h ⊢; exact ih h
theorem relabel_back {env : Env} {x : Str} : ∀ {names : List (Str × NameKind)},
    (names.map fun (n, k) => if (k == NameKind.free && env.scope.kind == .function && env.kindOf n == some .cell) then (n, NameKind.cell) else (n, k)).lookup x = some .cell ∨
    (names.map fun (n, k) => if (k == NameKind.free && env.scope.kind == .function && env.kindOf n == some .cell) then (n, NameKind.cell) else (n, k)).lookup x = some .free →
    (x, NameKind.free) ∈ names ∨ (x, NameKind.cell) ∈ names
  | [], h => by simp at h
  | (n, k) :: r, h => by
    have ih := @relabel_back env x r
    simp only [List.map_cons] at h
    have tl : (x, NameKind.free) ∈ r ∨ (x, NameKind.cell) ∈ r → (x, NameKind.free) ∈ (n, k) :: r ∨ (x, NameKind.cell) ∈ (n, k) :: r := fun q => q.imp (List.mem_cons_of_mem _) (List.mem_cons_of_mem _)
    by_cases hc : (k == NameKind.free && env.scope.kind == .function && env.kindOf n == some .cell) = true
    · rw [if_pos hc] at h
      have hk : k = .free := by
        simp only [Bool.and_eq_true] at hc
        simpa using hc.1.1
      simp only [List.lookup_cons] at h
      cases hx : x == n with
      | true =>
        have e : x = n := by simpa using hx
        subst e hk
        exact .inl List.mem_cons_self
      | false => simp only [hx] at h; exact tl (ih h)
    · rw [if_neg hc] at h
      simp only [List.lookup_cons] at h
      cases hx : x == n with
      | true =>
        have e : x = n := by simpa using hx
        subst e
        simp only [hx] at h
        rcases h with h | h
        · cases h; exact .inr List.mem_cons_self
        · cases h; exact .inl List.mem_cons_self
      | false => simp only [hx] at h; exact tl (ih h)
structure CompScope (osc : Scope) (N : List Str) (sc : Scope) (M : List Str) (ρ : List (Option Nat)) : Prop where
  kind : sc.kind = .function
  nocell : ∀ y ∈ sc.names, y.2 ≠ .cell
  own : ∀ y ∈ sc.names, y.2 = .local → sc.names.lookup y.1 = some .local
  fre : ∀ y ∈ sc.names, y.2 = .free → osc.names.lookup y.1 = some .cell ∨ osc.names.lookup y.1 = some .free
  len : ρ.length = M.length
  ren : ∀ p ∈ ρ.zip M, (match p.1 with | none => true | some i => decide (N[i]? = some p.2 ∧ sc.names.lookup p.2 = some .free)) = true
  nd : M.Nodup
noncomputable def subS (ρ : List (Option Nat)) (σ : St) : St := ρ.map fun o => match o with | none => none | some i => (σ[i]?).join
noncomputable def cxComp (X : Cx) (sc : Scope) (cl : List (Str × Addr)) (C : Addr) (M : List Str) (s : Shared) (H : Hp) (fp : List Addr) (xe : Value → Shared → Prop) : Cx where
  prog := X.prog
  w := X.w
  K := X.K
  mg := X.mg
  base := X.base
  A := X.A
  N := M
  s₀ := s
  H₀ := H
  env := compEnvC sc cl C X.env
  outer := X.stack
  stack := X.stack
  ex := fp
  fn := fun _ => false
  calm := X.calm
  pn := []
  xe := xe
theorem comp_loop {P : Program} {w : World} {A : Around} {R : Result → Shared → Prop} {s : Shared} {elt tg iter : Expr} {ifs : List Expr} {sc : Scope} {pos : Pos} {it acc : Value} {env : Env} (J : Nat → Shared → Prop)
    (turn : ∀ n s, J n s → wpAny (model P w) A (pyNext it) (fun r s1 => match r with
      | none => R (.ok .next) s1
      | some v => wpAny (model P w) A (letOwnedTupleGo tg it v) (fun _ s2 => wpAny (model P w) A (assign tg env v) (fun _ s3 =>
          wpAny (model P w) A (forIn ifs true fun c r => if r = true then do let ok ← isTrue c env (eval c env); pure (ForInStep.yield ok) else pure (ForInStep.yield r)) (fun ok s4 =>
            if ok = true then wpAny (model P w) A (eval elt env) (fun x s5 => wpAny (model P w) A (call (.builtin "list.append") [acc, x]) (fun _ s6 => ∃ m, m < n ∧ J m s6) (notedBy (model P w) A env fun e s' => R (.error e) s') s5)
              (notedBy (model P w) A env fun e s' => R (.error e) s') s4
            else ∃ m, m < n ∧ J m s4) (notedBy (model P w) A env fun e s' => R (.error e) s') s3) (notedBy (model P w) A env fun e s' => R (.error e) s') s2) (notedBy (model P w) A env fun e s' => R (.error e) s') s1)
      (notedBy (model P w) A env fun e s' => R (.error e) s') s)
    (n : Nat) (h : J n s) : codeAny (model P w) A (.compLoop (.ListComp elt [⟨tg, iter, ifs, 0⟩] sc pos) 0 it acc env) R s := by
  refine codeAny_loop rfl J (fun n s hJ => ?_) n h
  show wpAny (model P w) A ((compTurn (.ListComp elt [⟨tg, iter, ifs, 0⟩] sc pos) 0 it acc env).onRaise fun x => do noteFrame x env; theTreesLotGoes x) _ _ s
  refine wpAny_noted ?_
  rw [compTurn_list]
  refine wpAny_bind (wpAny_standAt (wpAny_bind (thn (turn n s hJ) fun r s1 h1 => ?_)))
  cases r with
  | none => exact wpAny_pure h1
  | some v =>
    refine wpAny_bind (thn h1 fun _ s2 h2 => wpAny_bind (thn h2 fun _ s3 h3 => wpAny_bind (thn h3 fun ok s4 h4 => ?_)))
    cases ok with
    | false => exact wpAny_pure ⟨rfl, h4⟩
    | true => exact wpAny_bind (wpAny_bind (thn h4 fun x s5 h5 => wpAny_bind (thn h5 fun _ s6 h6 => wpAny_pure (wpAny_pure ⟨rfl, h6⟩))))
noncomputable def PTs (X : Cx) (ifs : List Expr) (t : TT) : Prop :=
  ∀ (pins : List (Addr × Obj)) (s : Shared) (σ : St) (H : Hp) (Q : Bool → Hp → Prop), Inv X pins σ H s → t σ H Q →
    wpAny (model X.prog X.w) X.A (forIn ifs true fun c r => if r = true then do let ok ← isTrue c X.env (eval c X.env); pure (ForInStep.yield ok) else pure (ForInStep.yield r)) (TP X pins σ Q) X.xe s
noncomputable def tNoTest : TT := fun _ H Q => Q true H
theorem ntG {i : Nat} {v : V} {σ : St} {H : Hp} {A B : St → Hp → Prop} (h : A (σ.set i (some v)) H) : gName i v σ H (fun σ4 H4 => tNoTest σ4 H4 fun b H5 => if b = true then A σ4 H5 else B σ4 H5) := by
  show if true = true then A (σ.set i (some v)) H else B (σ.set i (some v)) H
  exact iteT h
theorem pts_nil {X : Cx} : PTs X [] tNoTest := fun _ _ _ H _ I h => wpAny_tests_nil ⟨H, I, h⟩
theorem pts_one {X : Cx} {c : Expr} {t : TT} (h : PT X c t) : PTs X [c] t := fun pins s σ H Q I q => wpAny_tests_one (h pins s σ H Q I q)
noncomputable def tComp (wi : TI) (ρ : List (Option Nat)) (g : TG) (tt : TT) (te : TE) : TE := fun σ H Q => wi σ H fun J H1 => ∀ D, H1 D = none → ∃ W : Nat → Nat → St → Hp → Prop, (∃ m, W 0 m (subS ρ σ) (upd H1 D (.lst []))) ∧ ∀ i m σ2 H2, W i m σ2 H2 →
  (J.stop i H2 ∧ Q (.ref D) H2) ∨ (J.go i H2 ∧ ∃ N : St → Hp → Prop, (∀ σ' H', N σ' H' → ∃ m', m' < m ∧ W (i + 1) m' σ' H') ∧ ∀ x H3, J.yld i H2 x H3 → g x σ2 H3 fun σ4 H4 => tt σ4 H4 fun b H5 =>
    if b = true then te σ4 H5 fun y H6 => ∃ ys, H6 D = some (.lst ys) ∧ ys.length < sizeLine ∧ N σ4 (upd H6 D (.lst (ys ++ [y])))
    else N σ4 H5)
theorem comp_by {J : It} {g : TG} {tt : TT} {te : TE} {Q : Hp → Prop} {σ : St} {H : Hp} {D : Addr} (n : Nat) (Pv : Nat → St → Hp → Prop) (h0 : Pv 0 σ (upd H D (.lst [])))
    (hs : ∀ i σ2 H2, i < n → Pv i σ2 H2 → J.go i H2 ∧ ∀ x H3, J.yld i H2 x H3 → g x σ2 H3 fun σ4 H4 => tt σ4 H4 fun b H5 =>
      if b = true then te σ4 H5 fun y H6 => ∃ ys, H6 D = some (.lst ys) ∧ ys.length < sizeLine ∧ Pv (i + 1) σ4 (upd H6 D (.lst (ys ++ [y]))) else Pv (i + 1) σ4 H5)
    (hd : ∀ σ2 H2, Pv n σ2 H2 → J.stop n H2 ∧ Q H2) :
    ∃ W : Nat → Nat → St → Hp → Prop, (∃ m, W 0 m σ (upd H D (.lst []))) ∧ ∀ i m σ2 H2, W i m σ2 H2 →
      (J.stop i H2 ∧ Q H2) ∨ (J.go i H2 ∧ ∃ N : St → Hp → Prop, (∀ σ' H', N σ' H' → ∃ m', m' < m ∧ W (i + 1) m' σ' H') ∧ ∀ x H3, J.yld i H2 x H3 → g x σ2 H3 fun σ4 H4 => tt σ4 H4 fun b H5 =>
        if b = true then te σ4 H5 fun y H6 => ∃ ys, H6 D = some (.lst ys) ∧ ys.length < sizeLine ∧ N σ4 (upd H6 D (.lst (ys ++ [y]))) else N σ4 H5) := by
  refine ⟨fun i m σ H => m = n - i ∧ i ≤ n ∧ Pv i σ H, ⟨n, by simp, Nat.zero_le _, h0⟩, ?_⟩
  rintro i m σ2 H2 ⟨rfl, hi, p⟩
  by_cases hlt : i < n
  · obtain ⟨h1, h2⟩ := hs i σ2 H2 hlt p
    exact .inr ⟨h1, Pv (i + 1), fun σ' H' p' => ⟨n - (i + 1), by omega, rfl, hlt, p'⟩, h2⟩
  · have e : i = n := by omega
    subst e
    exact .inl (hd σ2 H2 p)
section
variable {X : Cx} {tg elt iter : Expr} {ifs : List Expr} {sc : Scope} {pos : Pos} {M : List Str} {ρ : List (Option Nat)} {wi : TI} {g : TG} {tt : TT} {te : TE}
theorem comp_block (osc : Scope) (hosc : X.env.scope = osc) (N : List Str) (hN : X.N = N) (S : CompScope osc N sc M ρ) (hc : X.calm = true)
    (hg : ∀ cl C s H fp xe, PG (cxComp X sc cl C M s H fp xe) tg g) (ht : ∀ cl C s H fp xe, PTs (cxComp X sc cl C M s H fp xe) ifs tt) (he : ∀ cl C s H fp xe, PE (cxComp X sc cl C M s H fp xe) elt te)
    {pins : List (Addr × Obj)} {σ : St} {H : Hp} {s : Shared} {itv : Value} {Q : VK} {RR : Value → Addr → Result → Shared → Prop} (I : Inv X pins σ H s)
    (h2 : PIE X pins σ tg (fun J H1 => ∀ D, H1 D = none → ∃ W : Nat → Nat → St → Hp → Prop, (∃ m, W 0 m (subS ρ σ) (upd H1 D (.lst []))) ∧ ∀ i m σ2 H2, W i m σ2 H2 →
      (J.stop i H2 ∧ Q (.ref D) H2) ∨ (J.go i H2 ∧ ∃ N : St → Hp → Prop, (∀ σ' H', N σ' H' → ∃ m', m' < m ∧ W (i + 1) m' σ' H') ∧ ∀ x H3, J.yld i H2 x H3 → g x σ2 H3 fun σ4 H4 => tt σ4 H4 fun b H5 =>
        if b = true then te σ4 H5 fun y H6 => ∃ ys, H6 D = some (.lst ys) ∧ ys.length < sizeLine ∧ N σ4 (upd H6 D (.lst (ys ++ [y])))
        else N σ4 H5)) itv s)
    (hR : ∀ (D C : Addr) (H' : Hp) (s' : Shared) (mC : Str → Option Value), Inv X pins σ H' s' → s'.heap.Ns C mC → FpOk X pins H' C → Q (.ref D) H' → RR (.ref D) C (.ok .next) s') :
    wpAny (model X.prog X.w) X.A (newList []) (fun acc s3 => wpAny (model X.prog X.w) X.A (newFunctionEnv sc X.env.globals (closL X.env.cells sc.names []) [] X.env.qual none .none (some X.env)) (fun cenv s4 =>
      codeAny (model X.prog X.w) X.A (.compStart (.ListComp elt [⟨tg, iter, ifs, 0⟩] sc pos) 0 itv acc { cenv with scope := relabel sc X.env }) (RR acc cenv.locals) s4) X.xe s3) X.xe s := by
  subst hosc hN
  obtain ⟨it, fp, tn, J, H2, rfl, I2, T, st2, f2, q2⟩ := h2
  have hcells : ∀ y ∈ sc.names, y.2 = .free → ∃ c, X.env.cells.lookup y.1 = some c := fun y hy hf => I2.ok.has y.1 (S.fre y hy hf)
  have hclx : ∀ {x c}, (closL X.env.cells sc.names []).lookup x = some c → X.env.cells.lookup x = some c := fun {x c} e => (closL_lookup _ _ hcells e).elim id fun z => by simp at z
  generalize hcl : closL X.env.cells sc.names [] = cl at hclx ⊢
  refine wpAny_newObj_type (wpAny_newFunctionEnv S.nocell (by intro y hy; simp at hy) (fun h1 hns hsb => ?_) S.kind)
  dsimp only at hns hsb ⊢
  generalize hG : s.heap.push { cls := .type "list", dict := none, data := .seq ([] : List Value).toArray } = G at hns hsb ⊢
  have hC : G.objs.size = s.heap.objs.size + 1 := by rw [← hG, Heap.size_push]
  have old : ∀ b o, s.heap.get? b = some o → h1.get? b = some o := fun b o e =>
    hsb.extBut b o (Nat.ne_of_lt (by rw [hC]; exact Nat.lt_succ_of_lt (Heap.lt_size e))) (Heap.get?_push_of_some _ (hG ▸ Heap.get?_push_of_some _ e))
  have hD1 : h1.get? s.heap.objs.size = some { cls := .type "list", dict := none, data := .seq ([] : List Value).toArray } :=
    hsb.extBut _ _ (by rw [hC]; exact Nat.ne_of_lt (Nat.lt_succ_self _)) (Heap.get?_push_of_some _ (hG ▸ Heap.get?_push_size _ rfl))
  have hDn : H2 s.heap.objs.size = none := I2.hok.fresh (Nat.le_refl _)
  obtain ⟨W, ⟨m0, w0⟩, turn⟩ := q2 s.heap.objs.size hDn
  have hCle : s.heap.objs.size ≤ G.objs.size := by rw [hC]; exact Nat.le_succ _
  have hCD : G.objs.size ≠ s.heap.objs.size := by rw [hC]; exact Nat.succ_ne_self _
  generalize hxe : notedBy (model X.prog X.w) X.A (compEnvC sc cl G.objs.size X.env) (fun e s' => RR (.ref s.heap.objs.size) G.objs.size (.error e) s') = xe
  have fpC : ∀ b ∈ fp, b ≠ G.objs.size := fun b hb => by
    obtain ⟨o, e, _⟩ := T.obj 0 _ st2 b hb
    have := Heap.lt_size e
    exact Nat.ne_of_lt (Nat.lt_of_lt_of_le this hCle)
  have fpS : ∀ b ∈ fp, b ∉ frs X.stack := fun b hb z => by
    obtain ⟨f0, f1, f3, _⟩ := f2 b hb
    rcases List.mem_cons.mp (I2.stkSub b z) with e | e
    · exact f1 e
    · exact f3 e
  have hok : (cxComp X sc cl G.objs.size M s H2 fp xe).Ok := by
    refine ⟨I2.ok.mod, S.kind, I2.ok.glob, I2.ok.blt, hCle, fun x y c e1 e2 => I2.ok.inj x y c (hclx e1) (hclx e2), fun x hx => ?_, (fun x c e _ => absurd (show false = true from e) Bool.false_ne_true), I2.ok.hd, I2.ok.frames, .inl rfl, fun b hb => ⟨fpC b hb, fun x c e => (f2 b hb).2.2.2.2.1 x c (hclx e)⟩,
      I2.bs, Nat.le_trans I2.ok.bsz I2.sz, fun b o e hb => ?_, fpS, I2.stack, I2.stkFree⟩
    · rcases relabel_back (names := sc.names) (env := X.env) hx with q | q
      · rw [← hcl]; exact closL_has _ _ q
      · exact absurd rfl (S.nocell _ q)
    · rcases (f2 b hb).2.2.2.1 with z | z
      · exact I2.ok.noex b o e z
      · exact absurd (Nat.lt_of_lt_of_le (Heap.lt_size e) (Nat.le_trans I2.ok.bsz z)) (Nat.lt_irrefl _)
  have I4 : Inv (cxComp X sc cl G.objs.size M s H2 fp xe) [] (subS ρ σ) (upd H2 s.heap.objs.size (.lst [])) { s with heap := h1, toks := s.toks + ([] : List (Str × Value)).length } := by
    refine ⟨hok, rfl, I2.bare, Un.laid old (Nat.le_refl _) hDn, ⟨_, hns, fun j x v e1 e2 _ => ?_⟩, fun x c e => ?_, ?_, fun x c e => ?_, fun p hp => absurd (show p ∈ ([] : List (Addr × Obj)) from hp) (by simp), I2.hok.laid old (Nat.le_refl _) ⟨by show 0 ≤ sizeLine; decide, [], 0, .nil, hD1⟩, ?_⟩
    · unfold subS at e2
      rw [List.getElem?_map] at e2
      cases q : ρ[j]? with
      | none => rw [q] at e2; cases e2
      | some o =>
        rw [q] at e2
        cases o with
        | none => cases e2
        | some i =>
          have e2' : (σ[i]?).join = some v := Option.some.inj e2
          have e3 : σ[i]? = some (some v) := by
            cases z : σ[i]? with
            | none => rw [z] at e2'; cases e2'
            | some y => rw [z] at e2'; cases y with
              | none => cases e2'
              | some y => cases e2'; rfl
          have hz : (ρ.zip M)[j]? = some (some i, x) := List.getElem?_zip_eq_some.mpr ⟨q, e1⟩
          have hr := S.ren (some i, x) (List.mem_of_getElem? hz)
          obtain ⟨r1, r2⟩ := of_decide_eq_true hr
          obtain ⟨m, hn, hl⟩ := I2.loc
          have hfr := S.fre _ (PySem.mem_of_lookup r2) rfl
          obtain ⟨u, ru, lk⟩ := hl i x v r1 e3 (hfr.elim (fun z => .inr (.inl z)) fun z => .inr (.inr z))
          refine ⟨u, ru, ?_⟩
          rcases lk with ⟨k, _⟩ | ⟨_, c, hcc, cell⟩
          · have k' : X.env.scope.names.lookup x = some .local := k
            rcases hfr with z | z
            · rw [k'] at z; cases z
            · rw [k'] at z; cases z
          · obtain ⟨c', hc'⟩ := closL_has (cells := X.env.cells) sc.names [] (PySem.mem_of_lookup r2)
            rw [hcl] at hc'
            have := hclx hc'
            rw [hcc] at this
            cases this
            obtain ⟨oc, ho, hd⟩ := cell
            exact .inr ⟨relabel_free r2, _, hc', oc, old _ _ ho, hd⟩
    · obtain ⟨v, oc, ho, hd⟩ := I2.cell x c (hclx e)
      exact ⟨v, oc, old _ _ ho, hd⟩
    · show upd H2 s.heap.objs.size (.lst []) G.objs.size = none
      rw [upd_ne hCD]
      exact I2.hok.fresh hCle
    · show upd H2 s.heap.objs.size (.lst []) c = none
      obtain ⟨v, oc, ho, hd⟩ := I2.cell x c (hclx e)
      rw [upd_ne (Nat.ne_of_lt (Heap.lt_size ho))]
      exact I2.freeC x c (hclx e)
    · show (subS ρ σ).length = M.length
      unfold subS
      rw [List.length_map, S.len]
  have st4 : tn 0 h1 := T.keep 0 _ _ st2 fun b _ o e => old b o e
  have fr4 : ∀ b ∈ fp, upd H2 s.heap.objs.size (.lst []) b = none := fun b hb => by
    obtain ⟨o, e, _⟩ := T.obj 0 _ st2 b hb
    rw [upd_ne (Nat.ne_of_lt (Heap.lt_size e))]
    exact (f2 b hb).1
  have stat : ∀ {H' : Hp}, (∀ b ∈ fp, H' b = none) → ∀ b ∈ fp, FpOk (cxComp X sc cl G.objs.size M s H2 fp xe) [] H' b := fun hn b hb =>
    ⟨hn b hb, fpC b hb, fpS b hb, .inl hb, fun x c e => (f2 b hb).2.2.2.2.1 x c (hclx e), fun p hp => absurd (show p ∈ ([] : List (Addr × Obj)) from hp) (by simp)⟩
  have loop : codeAny (model X.prog X.w) X.A (.compLoop (.ListComp elt [⟨tg, iter, ifs, 0⟩] sc pos) 0 (.ref it) (.ref s.heap.objs.size) (compEnvC sc cl G.objs.size X.env)) (RR (.ref s.heap.objs.size) G.objs.size)
      { s with heap := h1, toks := s.toks + ([] : List (Str × Value)).length } := by
    refine comp_loop (fun n s' => ∃ i σ' H', Inv (cxComp X sc cl G.objs.size M s H2 fp xe) [] σ' H' s' ∧ tn i s'.heap ∧ (∀ b ∈ fp, H' b = none) ∧ W i n σ' H') ?_ m0 ⟨0, _, _, I4, st4, fr4, w0⟩
    rw [hxe]
    rintro n s3 ⟨i, σ3, H3, I3, st3, fr3, w3⟩
    rcases turn i n σ3 H3 w3 with ⟨stop, qn⟩ | ⟨go, N, hN, step⟩
    · refine thn (T.done (cxComp X sc cl G.objs.size M s H2 fp xe) rfl rfl rfl hc i [] s3 σ3 H3 xe I3 (stat fr3) st3 stop) fun r s4 ⟨hr, I5⟩ => ?_
      subst hr
      obtain ⟨mC, nC, _⟩ := I5.loc
      have I6 : Inv X pins σ H3 s4 := I2.call' I5.os I5.base I5.hok I5.bare fun b hb => ⟨(f2 b hb).2.2.2.1, (f2 b hb).2.1, (f2 b hb).2.2.2.2.1, (f2 b hb).2.2.2.2.2⟩
      exact hR _ _ H3 s4 mC I6 nC (I2.fpOk hCle I5.free) qn
    · refine thn (T.item (cxComp X sc cl G.objs.size M s H2 fp xe) rfl rfl rfl hc i [] s3 σ3 H3 xe I3 (stat fr3) st3 go) fun r s4 ⟨u, hr, h4⟩ => ?_
      subst hr
      refine thn h4 fun _ s5 ⟨x, H5, I5, r5, y5, st5, fr5⟩ => ?_
      have I5' := I5.pinned (stat fr5) (T.obj _ _ st5)
      refine thn (hg cl G.objs.size s H2 fp xe _ s5 σ3 H5 x u _ I5' r5 (step x H5 y5)) fun _ s6 ⟨σ6, H6, I6, q6⟩ => ?_
      have fin : ∀ {s7 : Shared} {σ7 : St} {H7 : Hp}, Inv (cxComp X sc cl G.objs.size M s H2 fp xe) ([] ++ pinsAt fp s5.heap) σ7 H7 s7 → (∃ m', m' < n ∧ W (i + 1) m' σ7 H7) →
          ∃ m, m < n ∧ ∃ i σ' H', Inv (cxComp X sc cl G.objs.size M s H2 fp xe) [] σ' H' s7 ∧ tn i s7.heap ∧ (∀ b ∈ fp, H' b = none) ∧ W i m σ' H' := fun {s7 σ7 H7} I7 ⟨m', hm, w7⟩ => by
        refine ⟨m', hm, i + 1, σ7, H7, I7.unpinned, T.keep _ _ _ st5 fun b hb o e => (I7.pin (b, o) (List.mem_append_right _ (List.mem_append_right _ (mem_pinsAt hb e)))).1, fun b hb => ?_, w7⟩
        obtain ⟨o, e, d⟩ := T.obj _ _ st5 b hb
        exact (I7.pin (b, o) (List.mem_append_right _ (List.mem_append_right _ (mem_pinsAt hb e)))).2.1
      refine thn (ht cl G.objs.size s H2 fp xe _ s6 σ6 H6 _ I6 q6) fun ok s7 ⟨H7, I7, q7⟩ => ?_
      cases ok with
      | false =>
        rw [if_neg Bool.false_ne_true] at q7 ⊢
        exact fin I7 (hN _ _ q7)
      | true =>
        rw [if_pos rfl] at q7 ⊢
        refine thn (he cl G.objs.size s H2 fp xe _ s7 σ6 H7 _ I7 q7) fun y s8 ⟨yv, H8, I8, r8, ys, hys, hlt, q8⟩ => ?_
        obtain ⟨z, its, k, rv, hl, e⟩ := I8.lstM hys
        refine call_meets F.slot_list_append ⟨_, e, rfl⟩ F.entry_list_append (F.args_list_append_2 _ _) (PySem.list_append _ its.toArray k y (by rw [List.size_toArray]; omega)) ⟨e, ?_⟩
        exact fin (I8.lset (its' := its ++ [y]) hys e (by simp) (rv.append (.cons r8 .nil)) (by rw [List.length_append, List.length_singleton]; omega)) (hN _ _ q8)
  exact codeAny_compStart_list loop (T.self X.A 0 _ _ _ st4 loop)
theorem pe_comp (osc : Scope) (N : List Str) (S : CompScope osc N sc M ρ) (hi : PI X tg iter wi) (hg : ∀ cl C s H fp xe, PG (cxComp X sc cl C M s H fp xe) tg g) (ht : ∀ cl C s H fp xe, PTs (cxComp X sc cl C M s H fp xe) ifs tt)
    (he : ∀ cl C s H fp xe, PE (cxComp X sc cl C M s H fp xe) elt te) (hosc : X.env.scope = osc := by rfl) (hN : X.N = N := by rfl) (hc : X.calm = true := by rfl) (hs : ∀ x, foldedSetIterable iter X.env x = pure x := by intro _; rfl) :
    PE X (.ListComp elt [⟨tg, iter, ifs, 0⟩] sc pos) (tComp wi ρ g tt te) := by
  intro pins s σ H Q I h
  have hcells : ∀ y ∈ sc.names, y.2 = .free → ∃ c, X.env.cells.lookup y.1 = some c := fun y hy hf => I.ok.has y.1 (by show X.env.scope.names.lookup y.1 = _ ∨ X.env.scope.names.lookup y.1 = _; rw [hosc]; exact S.fre y hy hf)
  rw [eval_ListComp]
  refine wpAny_comprehension_free (M := model X.prog X.w) (A := X.A) (E := X.xe) (e := .ListComp elt [⟨tg, iter, ifs, 0⟩] sc pos) rfl hs (closure_pure hcells) S.kind S.own (thn (hi pins s σ H _ I h) fun v s1 h1 => thn h1 fun itv s2 h2 => ?_)
  obtain ⟨_, _, _, _, _, _, I2, _⟩ := id h2
  refine comp_block (RR := fun acc C => compPost (model X.prog X.w) X.A X.xe none (EP X pins σ Q) acc C) osc hosc N hN S hc hg ht he I2 h2 fun D C H' s' mC I' nC fC q => ?_
  refine ⟨mC, nC, fun h' sb => ?_⟩
  obtain ⟨f0, f1, _, f3, f4, f5⟩ := fC
  exact ⟨.ref D, H', I'.turned (t' := s'.toks) (fun b o hb e => (sb.2 b hb).trans e) f0 f1 f3 f4 f5, rfl, q⟩
theorem ps_setC {j : Nat} {x : Str} {px spos : Pos} (osc : Scope) (N : List Str) (S : CompScope osc N sc M ρ) (hNd : X.N.Nodup) (hj : X.N[j]? = some x) (hx : Loc X.env.scope x) (hi : PI X tg iter wi) (hg : ∀ cl C s H fp xe, PG (cxComp X sc cl C M s H fp xe) tg g)
    (ht : ∀ cl C s H fp xe, PTs (cxComp X sc cl C M s H fp xe) ifs tt) (he : ∀ cl C s H fp xe, PE (cxComp X sc cl C M s H fp xe) elt te)
    (hsw : swapsWith (.ListComp elt [⟨tg, iter, ifs, 0⟩] sc pos) (some (.Name x px)) spos.line X.env = pure true := by rfl) (hosc : X.env.scope = osc := by rfl) (hN : X.N = N := by rfl) (hc : X.calm = true := by rfl) (hs : ∀ x, foldedSetIterable iter X.env x = pure x := by intro _; rfl)
    (hf : X.fn x = true ∨ X.env.scope.names.lookup x = some .local := by first | exact .inl rfl | exact .inr rfl | assumption) :
    PS X (.Assign [.Name x px] (.ListComp elt [⟨tg, iter, ifs, 0⟩] sc pos) spos) (tAsg (tComp wi ρ g tt te) (gName j)) := by
  intro pins s σ H D I h
  have hcells : ∀ y ∈ sc.names, y.2 = .free → ∃ c, X.env.cells.lookup y.1 = some c := fun y hy hf => I.ok.has y.1 (by show X.env.scope.names.lookup y.1 = _ ∨ X.env.scope.names.lookup y.1 = _; rw [hosc]; exact S.fre y hy hf)
  rw [exec_Assign_Name_used _ _ _ _ hsw]
  refine wpAny_bind (wpAny_standAt (wpAny_bind ?_))
  show wpAny (model X.prog X.w) X.A (do let _ ← comprehension (.ListComp elt [⟨tg, iter, ifs, 0⟩] sc pos) sc X.env (firstIterPos [⟨tg, iter, ifs, 0⟩] pos) (newList []) false (eval iter X.env) (some (assign (.Name x px) X.env))) _ X.xe s
  refine wpAny_bind (thn (Q := fun _ s' => SP X pins D .next s') (wpAny_comprehension_free (M := model X.prog X.w) (A := X.A) (E := X.xe) (e := .ListComp elt [⟨tg, iter, ifs, 0⟩] sc pos) (use := some (assign (.Name x px) X.env)) rfl hs (closure_pure hcells) S.kind S.own
    (thn (hi pins s σ H _ I h) fun v s1 h1 => thn h1 fun itv s2 h2 => ?_)) fun _ s' hq => wpAny_pure (wpAny_pure hq))
  obtain ⟨_, _, _, _, _, _, I2, _⟩ := id h2
  refine comp_block (Q := fun v H' => gName j v σ H' D.nx) (RR := fun acc C => compPost (model X.prog X.w) X.A X.xe (some (assign (.Name x px) X.env)) (fun _ s' => SP X pins D .next s') acc C) osc hosc N hN S hc hg ht he I2 h2 fun D' C H' s' mC I' nC fC q => ?_
  show wpAny _ _ (assign (.Name x px) X.env (.ref D')) _ _ s'
  refine wpAny_assign_Name (store_ok2 I' hNd hj hx (v := .ref D') rfl (fun s3 I3 ⟨a, sb, ha⟩ => ?_) hf)
  have hCa : C ≠ a := by
    rcases ha with e | e
    · rw [e]; exact fC.2.1
    · exact fun z => fC.2.2.2.2.1 x a e z.symm
  refine ⟨mC, nC.sameBut sb hCa, fun h' sb2 => ?_⟩
  obtain ⟨f0, f1, _, f3, f4, f5⟩ := fC
  exact ⟨_, H', I3.turned (t' := s3.toks) (fun b o hb e => (sb2.2 b hb).trans e) f0 f1 f3 f4 f5, q⟩
end
end L2
set_option Elab.async false
set_option linter.all false
set_option maxRecDepth 100000
set_option maxHeartbeats 16000000
namespace L2
open PySem PySem.Spec PyProof.Rows
section
variable {X : Cx} {tg : Expr}
theorem ix_tupK {K : PySem.W.Frag} (h : X.K = K) : IxR X (rIxT K) := h ▸ ix_tup
theorem call_isinstK {K : PySem.W.Frag} (h : X.K = K) : CallR X (.builtin "isinstance") (fun xs H Q => ∃ x t T b, xs = [x, .ty T] ∧ TyOf K H x t ∧ PySem.W.kitOne K t (.type T) = some b ∧ Q (.bl b) H) := h ▸ call_isinst
theorem pg_tupK {K : PySem.W.Frag} {pos : Pos} {es : List Expr} {k : Nat} {t : TGs} {n : Nat} (hK : X.K = K) (hc : X.calm = true) (h : PGs X es t) (hn : (assignEach es X.env).length = n := by rfl) (hst : (assignEach es X.env).findIdx? (·.1) = none := by rfl) : PG X (.Tuple es k pos) (gTup K n t) := hK ▸ pg_tup hc h hn hst
end
end L2
set_option Elab.async false
set_option linter.all false
set_option maxRecDepth 100000
set_option maxHeartbeats 16000000
namespace L2
open PySem PySem.Spec PyProof.Rows
noncomputable def PairAt (H : Hp) (v : V) (d : Str × Str) : Prop := ∃ p, v = .ref p ∧ H p = some (.tup [.str d.1, .str d.2]) ∧ NameOk d.1 ∧ NameOk d.2
noncomputable abbrev Pairs (H : Hp) : List V → List (Str × Str) → Prop := Paired (PairAt H)
theorem PairAt.mono {H H' : Hp} (s : Tups H H') {v : V} {t : Str × Str} (h : PairAt H v t) : PairAt H' v t := by
  obtain ⟨p, e, h, o⟩ := h
  exact ⟨p, e, s p _ h, o⟩
theorem Pairs.mono {H H' : Hp} (s : Tups H H') {vs : List V} {ts : List (Str × Str)} (h : Pairs H vs ts) : Pairs H' vs ts := Paired.mapP h fun _ _ q => q.mono s
structure PairsAt (H : Hp) (t : Addr) (ps : List (Str × Str)) : Prop where
  ex : ∃ vs, H t = some (.tup vs) ∧ Pairs H vs ps
  hi : ps.length ≤ 6
theorem PairsAt.mono {H H' : Hp} (s : Tups H H') {t : Addr} {ts : List (Str × Str)} (h : PairsAt H t ts) : PairsAt H' t ts := by
  obtain ⟨⟨vs, h1, h2⟩, hi⟩ := h
  exact ⟨⟨vs, s t _ h1, h2.mono s⟩, hi⟩
noncomputable def optV : Option Str → V
  | none => .non
  | some x => .str x
inductive Rw where
  | bring (p : Str) (ps : List (Str × Str))
  | give (o g : Str)
  | set (o : Str) (ts : List (Int × Th))
  | take (o : Str)
  | say (ts : List (Int × Th)) (w : Option Str)
  | need (ts : List (Int × Th))
  | ask (p : Str) (w : Option Str)
  | part (p : Str)
  | doo (p : Str)
noncomputable def RowAt (H : Hp) (r : Addr) : Rw → Prop
  | .bring p ps => ∃ t, H r = some (.tup [.str "bring", .str p, .ref t]) ∧ PairsAt H t ps
  | .give o g => H r = some (.tup [.str "give", .str o, .str g])
  | .set o ts => ∃ t, H r = some (.tup [.str "set", .str o, .ref t]) ∧ TermsAt H t ts
  | .take o => H r = some (.tup [.str "take", .str o])
  | .say ts w => ∃ t, H r = some (.tup [.str "say", .ref t, optV w]) ∧ TermsAt H t ts
  | .need ts => ∃ t, H r = some (.tup [.str "need", .ref t]) ∧ TermsAt H t ts
  | .ask p w => H r = some (.tup [.str "ask", .str p, optV w])
  | .part p => H r = some (.tup [.str "part", .str p])
  | .doo p => H r = some (.tup [.str "do", .str p])
theorem RowAt.mono {H H' : Hp} (s : Tups H H') {r : Addr} {rw : Rw} (h : RowAt H r rw) : RowAt H' r rw := by
  cases rw with
  | bring p ps => obtain ⟨t, h1, h2⟩ := h; exact ⟨t, s _ _ h1, h2.mono s⟩
  | give o g => exact s _ _ h
  | set o ts => obtain ⟨t, h1, h2⟩ := h; exact ⟨t, s _ _ h1, h2.mono s⟩
  | take o => exact s _ _ h
  | say ts w => obtain ⟨t, h1, h2⟩ := h; exact ⟨t, s _ _ h1, h2.mono s⟩
  | need ts => obtain ⟨t, h1, h2⟩ := h; exact ⟨t, s _ _ h1, h2.mono s⟩
  | ask p w => exact s _ _ h
  | part p => exact s _ _ h
  | doo p => exact s _ _ h
end L2
set_option Elab.async false
set_option linter.all false
set_option maxRecDepth 100000
set_option maxHeartbeats 16000000
namespace L2
open PySem PySem.Spec PyProof.Rows
section
variable {X : Cx} {elts : List Expr} {k : Nat} {tpos : Pos}
end
end L2
set_option Elab.async false
set_option linter.all false
set_option maxRecDepth 100000
set_option maxHeartbeats 16000000
namespace L2
open PySem PySem.Spec PyProof.Rows
noncomputable abbrev Pt := Str × List Rw
noncomputable def isWork : Rw → Bool
  | .part _ | .doo _ => false
  | _ => true
noncomputable def RowV (H : Hp) (v : V) (rw : Rw) : Prop := ∃ r, v = .ref r ∧ RowAt H r rw
noncomputable abbrev RowsAt (H : Hp) : List V → List Rw → Prop := Paired (RowV H)
theorem RowsAt.mono {H H' : Hp} (s : Tups H H') {vs : List V} {rs : List Rw} (h : RowsAt H vs rs) : RowsAt H' vs rs := Paired.mapP h fun _ _ ⟨r, e, q⟩ => ⟨r, e, q.mono s⟩
noncomputable def PartAt (H : Hp) (v : V) (p : Pt) : Prop := ∃ t u vs, v = .ref t ∧ H t = some (.tup [.str p.1, .ref u]) ∧ H u = some (.tup vs) ∧ RowsAt H vs p.2
theorem PartAt.mono {H H' : Hp} (s : Tups H H') {v : V} {p : Pt} (h : PartAt H v p) : PartAt H' v p := by
  obtain ⟨t, u, vs, e, h1, h2, h3⟩ := h
  exact ⟨t, u, vs, e, s _ _ h1, s _ _ h2, h3.mono s⟩
end L2
set_option Elab.async false
set_option linter.all false
set_option maxRecDepth 100000
set_option maxHeartbeats 16000000
namespace L2
open PySem PySem.Spec PyProof.Rows
section
variable {κ : Type} [DecidableEq κ]
noncomputable def valV (kvs : List (κ × V)) (k : κ) : Option V := (kvs.find? fun kv => decide (kv.1 = k)).map (·.2)
noncomputable def putK (kvs : List (κ × V)) (k : κ) (v : V) : List (κ × V) :=
  if (kvs.any fun kv => decide (kv.1 = k)) = true then kvs.map (fun kv => if kv.1 = k then (kv.1, v) else kv) else kvs ++ [(k, v)]
theorem valV_pos {p : κ × V} {r : List (κ × V)} {k : κ} (e : p.1 = k) : valV (p :: r) k = some p.2 := by simp [valV, List.find?_cons, e]
theorem valV_neg {p : κ × V} {r : List (κ × V)} {k : κ} (e : ¬ p.1 = k) : valV (p :: r) k = valV r k := by simp [valV, List.find?_cons, e]
theorem valV_any (k : κ) : ∀ kvs : List (κ × V), (kvs.any fun kv => decide (kv.1 = k)) = (valV kvs k).isSome
  | [] => rfl
  | p :: r => by
    rw [List.any_cons]
    by_cases e : p.1 = k
    · simp only [valV_pos e, decide_eq_true e, Bool.true_or, Option.isSome_some]
    · rw [valV_neg e, decide_eq_false e, Bool.false_or]; exact valV_any k r
theorem valV_map (k j : κ) (y : V) : ∀ kvs : List (κ × V), valV (kvs.map fun kv => if kv.1 = k then (kv.1, y) else kv) j = (valV kvs j).map fun x => if j = k then y else x
  | [] => rfl
  | p :: r => by
    have ih := valV_map k j y r
    rw [List.map_cons]
    by_cases h : p.1 = k
    · rw [if_pos h]
      by_cases e : p.1 = j
      · rw [valV_pos (p := (p.1, y)) e, valV_pos e, Option.map_some, if_pos (e.symm.trans h)]
      · rw [valV_neg (p := (p.1, y)) e, valV_neg e, ih]
    · rw [if_neg h]
      by_cases e : p.1 = j
      · rw [valV_pos (p := p) e, valV_pos e, Option.map_some, if_neg (fun z => h (e.trans z))]
      · rw [valV_neg (p := p) e, valV_neg e, ih]
theorem valV_snoc (k j : κ) (y : V) : ∀ kvs : List (κ × V), valV kvs k = none → valV (kvs ++ [(k, y)]) j = if j = k then some y else valV kvs j
  | [], _ => by
    by_cases e : k = j
    · rw [if_pos e.symm]; exact valV_pos (p := (k, y)) e
    · rw [if_neg (fun z => e z.symm)]; exact valV_neg (p := (k, y)) e
  | p :: r, hn => by
    rw [List.cons_append]
    have hk : ¬ p.1 = k := fun z => by rw [valV_pos z] at hn; cases hn
    rw [valV_neg hk] at hn
    have ih := valV_snoc k j y r hn
    by_cases e : p.1 = j
    · rw [valV_pos e, valV_pos e, if_neg (fun z => hk (e.trans z))]
    · rw [valV_neg e, valV_neg e, ih]
theorem valV_put (kvs : List (κ × V)) (k j : κ) (y : V) : valV (putK kvs k y) j = if j = k then some y else valV kvs j := by
  unfold putK
  by_cases a : (kvs.any fun kv => decide (kv.1 = k)) = true
  · rw [if_pos a, valV_map]
    rw [valV_any] at a
    by_cases e : j = k
    · obtain ⟨x, hx⟩ := Option.isSome_iff_exists.mp a
      rw [if_pos e, e, hx, Option.map_some, if_pos rfl]
    · rw [if_neg e]
      cases valV kvs j with
      | none => rfl
      | some x => rw [Option.map_some, if_neg e]
  · rw [if_neg a]
    refine valV_snoc k j y kvs ?_
    rw [valV_any] at a
    cases q : valV kvs k with
    | none => rfl
    | some x => rw [q] at a; exact (a rfl).elim
theorem length_putK (kvs : List (κ × V)) (k : κ) (v : V) : (putK kvs k v).length ≤ kvs.length + 1 := by
  unfold putK
  split
  · rw [List.length_map]; omega
  · rw [List.length_append, List.length_cons, List.length_nil]; omega
theorem RelO.isSome_eq {o : Option V} {u : Option Value} (r : RelO o u) : o.isSome = u.isSome := by
  cases o with
  | none => cases u with
    | none => rfl
    | some _ => exact (show False from r).elim
  | some _ => cases u with
    | none => exact (show False from r).elim
    | some _ => rfl
theorem KV.val {kvs : List (κ × V)} {vs : List (κ × Value)} (r : KV kvs vs) (k : κ) : RelO (valV kvs k) (valueAt vs k) := by
  unfold KV at r
  induction r with
  | nil => exact True.intro
  | @cons p q ps qs h t ih =>
    obtain ⟨h1, h2⟩ := h
    by_cases e : p.1 = k
    · have e' : q.1 = k := h1.symm.trans e
      have b : valueAt (q :: qs) k = some q.2 := by simp [valueAt, List.find?_cons, e']
      rw [valV_pos e, b]; exact h2
    · have e' : ¬ q.1 = k := fun z => e (h1.trans z)
      have b : valueAt (q :: qs) k = valueAt qs k := by simp [valueAt, List.find?_cons, e']
      rw [valV_neg e, b]; exact ih
theorem KV.any {kvs : List (κ × V)} {vs : List (κ × Value)} (r : KV kvs vs) (k : κ) : (kvs.any fun kv => decide (kv.1 = k)) = vs.any fun kv => decide (kv.1 = k) := by
  unfold KV at r
  induction r with
  | nil => rfl
  | cons h t ih => rw [List.any_cons, List.any_cons, ih, h.1]
theorem KV.repl {kvs : List (κ × V)} {vs : List (κ × Value)} (r : KV kvs vs) (k : κ) {y : V} {u : Value} (ry : RelV y u) :
    KV (kvs.map fun kv => if kv.1 = k then (kv.1, y) else kv) (vs.map fun kv => if kv.1 = k then (kv.1, u) else kv) := by
  unfold KV at r ⊢
  induction r with
  | nil => exact .nil
  | @cons p q ps qs h t ih =>
    rw [List.map_cons, List.map_cons]
    refine .cons ?_ ih
    obtain ⟨h1, h2⟩ := h
    by_cases e : p.1 = k
    · rw [if_pos e, if_pos (h1.symm.trans e)]; exact ⟨h1, ry⟩
    · rw [if_neg e, if_neg (fun z => e (h1.trans z))]; exact ⟨h1, h2⟩
theorem KV.put {kvs : List (κ × V)} {vs : List (κ × Value)} (r : KV kvs vs) (k : κ) {y : V} {u : Value} (ry : RelV y u) : KV (putK kvs k y) (stored vs k u) := by
  unfold putK stored
  rw [r.any k]
  by_cases e : (vs.any fun kv => decide (kv.1 = k)) = true
  · rw [if_pos e, if_pos e]; exact r.repl k ry
  · rw [if_neg e, if_neg e]; exact Paired.snoc r ⟨rfl, ry⟩
theorem KV.length {kvs : List (κ × V)} {vs : List (κ × Value)} (r : KV kvs vs) : kvs.length = vs.length := Paired.length r
end
theorem kV_is {P : Program} {w : World} {k : Key} {u : Value} (r : RelV (kV k) u) : (mixKind P w).is k u = true := by
  cases k with
  | inl i => obtain ⟨t, e⟩ := (show ∃ t, u = Value.int i t from r); subst e; exact mixKind_int P w i t
  | inr x => obtain ⟨t, e⟩ := (show ∃ t, u = Value.str x t from r); subst e; exact mixKind_str P w x t
theorem items_are {P : Program} {w : World} : ∀ {ks : List Key} {us : List Value}, Vals (ks.map kV) us → ItemsAre (mixKind P w) ks us
  | [], _, r => by rw [List.map_nil] at r; cases r; exact .nil
  | k :: ks, _, r => by
    rw [List.map_cons] at r
    cases r with
    | cons h t => exact .cons (kV_is h) (items_are t)
noncomputable abbrev KT (H : Hp) : List (List Key × V) → List (List Key × Addr × Value) → Prop := Paired fun p q => p.1 = q.1 ∧ H q.2.1 = some (.tup (p.1.map kV)) ∧ RelV p.2 q.2.2
theorem KT.val {H : Hp} {kvs : List (List Key × V)} {xs : List (List Key × Addr × Value)} (r : KT H kvs xs) (k : List Key) : RelO (valV kvs k) ((atKey xs k).map (·.2)) := by
  induction r with
  | nil => exact True.intro
  | @cons p q ps qs h t ih =>
    obtain ⟨h1, _, h2⟩ := h
    by_cases e : p.1 = k
    · have e' : q.1 = k := h1.symm.trans e
      have b : atKey (q :: qs) k = some q.2 := by simp [atKey, List.find?_cons, e']
      rw [valV_pos e, b]; exact h2
    · have e' : ¬ q.1 = k := fun z => e (h1.trans z)
      have b : atKey (q :: qs) k = atKey qs k := by simp [atKey, List.find?_cons, e']
      rw [valV_neg e, b]; exact ih
theorem KT.repl {H : Hp} {kvs : List (List Key × V)} {xs : List (List Key × Addr × Value)} (r : KT H kvs xs) (k : List Key) {y : V} {u : Value} (ry : RelV y u) :
    KT H (kvs.map fun kv => if kv.1 = k then (kv.1, y) else kv) (xs.map (putAt k u)) := by
  induction r with
  | nil => exact .nil
  | @cons p q ps qs h t ih =>
    rw [List.map_cons, List.map_cons]
    refine .cons ?_ ih
    obtain ⟨h1, h2, h3⟩ := h
    unfold putAt
    by_cases e : p.1 = k
    · rw [if_pos e, if_pos (h1.symm.trans e)]; exact ⟨h1, h2, ry⟩
    · rw [if_neg e, if_neg (fun z => e (h1.trans z))]; exact ⟨h1, h2, h3⟩
theorem KT.put {H : Hp} {kvs : List (List Key × V)} {xs : List (List Key × Addr × Value)} (r : KT H kvs xs) (k : List Key) {b : Addr} {y : V} {u : Value} (hb : H b = some (.tup (k.map kV))) (ry : RelV y u) :
    KT H (putK kvs k y) (storedH xs k b u) := by
  have e : (kvs.any fun kv => decide (kv.1 = k)) = (atKey xs k).isSome := by
    rw [valV_any, (r.val k).isSome_eq, Option.isSome_map]
  unfold putK storedH
  rw [e]
  by_cases q : (atKey xs k).isSome = true
  · rw [if_pos q, if_pos q]; exact r.repl k ry
  · rw [if_neg q, if_neg q]; exact Paired.snoc r ⟨rfl, hb, ry⟩
theorem KT.keeps {H H' : Hp} {kvs : List (List Key × V)} {xs : List (List Key × Addr × Value)} (r : KT H kvs xs) (ht : ∀ b ys, H b = some (.tup ys) → H' b = some (.tup ys)) : KT H' kvs xs :=
  Paired.mapP r fun _ _ z => ⟨z.1, ht _ _ z.2.1, z.2.2⟩
section
variable {P : Program} {w : World} {H : Hp} {h : Heap} {a : Addr}
theorem rd_of {u : HO} (ok : HOk P w H h) (e : Rd H a u) : ObjOk P w H h a u := e.ok ok
theorem dk_rd {kvs : List (Key × V)} (ok : HOk P w H h) (e : Rd H a (.dK kvs)) : kvs.length ≤ sizeLine ∧ (a == sysModules) = false ∧ ∃ vs, KV kvs vs ∧ h.DictOf (mixKind P w) a vs :=
  show ObjOk P w H h a (.dK kvs) from rd_of ok e
theorem dk_of {kvs : List (Key × V)} (ok : HOk P w H h) (e : H a = some (.dK kvs)) : kvs.length ≤ sizeLine ∧ (a == sysModules) = false ∧ ∃ vs, KV kvs vs ∧ h.DictOf (mixKind P w) a vs := dk_rd ok (.inl e)
theorem key_of {ks : List Key} (ok : HOk P w H h) (e : H a = some (.tup (ks.map kV))) : (tupleKind (mixKind P w)).is h ks a := by
  obtain ⟨_, its, r, o, h1, h2, n, h3⟩ := (show ObjOk P w H h a (.tup (ks.map kV)) from ok a _ e)
  exact ⟨o, its.toArray, n, h1, h2, h3, by simpa using items_are r⟩
theorem dt_rd {kvs : List (List Key × V)} (ok : HOk P w H h) (e : Rd H a (.dT kvs)) : kvs.length ≤ sizeLine ∧ (a == sysModules) = false ∧
    ∃ xs, KT H kvs xs ∧ h.DictOfH (tupleKind (mixKind P w)) a xs := by
  obtain ⟨z, y, xs, r, o, es, ep, h1, h2, h3, h4, h5⟩ := (show ObjOk P w H h a (.dT kvs) from rd_of ok e)
  refine ⟨z, y, xs, r, o, es, ep, h1, h2, h3, h4, fun x hx => ?_, h5⟩
  have all : ∀ {l : List (List Key × V)} {m : List (List Key × Addr × Value)}, KT H l m → ∀ x ∈ m, (tupleKind (mixKind P w)).is h x.1 x.2.1 := by
    intro l m q
    induction q with
    | nil => intro x hx; exact nomatch hx
    | @cons p q ps qs hq t ih =>
      intro x hx
      rcases List.mem_cons.mp hx with e | hx
      · subst e
        exact key_of ok (by rw [← hq.1]; exact hq.2.1)
      · exact ih x hx
  exact all r x hx
theorem dt_of {kvs : List (List Key × V)} (ok : HOk P w H h) (e : H a = some (.dT kvs)) : kvs.length ≤ sizeLine ∧ (a == sysModules) = false ∧
    ∃ xs, KT H kvs xs ∧ h.DictOfH (tupleKind (mixKind P w)) a xs := dt_rd ok (.inl e)
end
noncomputable def DGet (H : Hp) (a : Addr) (y : V) (r : Option V) : Prop :=
  (∃ kvs k, Rd H a (.dK kvs) ∧ y = kV k ∧ r = valV kvs k) ∨ ∃ kvs k b, Rd H a (.dT kvs) ∧ y = .ref b ∧ H b = some (.tup (k.map kV)) ∧ r = valV kvs k
noncomputable def DPut (H : Hp) (a : Addr) (y v : V) (H' : Hp) : Prop :=
  (∃ kvs k, H a = some (.dK kvs) ∧ y = kV k ∧ kvs.length < sizeLine ∧ H' = upd H a (.dK (putK kvs k v))) ∨
  ∃ kvs k b, H a = some (.dT kvs) ∧ y = .ref b ∧ H b = some (.tup (k.map kV)) ∧ kvs.length < sizeLine ∧ H' = upd H a (.dT (putK kvs k v))
theorem DGet.k {H : Hp} {a : Addr} {kvs : List (Key × V)} {k : Key} (e : H a = some (.dK kvs)) : DGet H a (kV k) (valV kvs k) := .inl ⟨kvs, k, .inl e, rfl, rfl⟩
theorem DGet.t {H : Hp} {a b : Addr} {kvs : List (List Key × V)} {k : List Key} (e : H a = some (.dT kvs)) (eb : H b = some (.tup (k.map kV))) : DGet H a (.ref b) (valV kvs k) := .inr ⟨kvs, k, b, .inl e, rfl, eb, rfl⟩
theorem DPut.k {H : Hp} {a : Addr} {kvs : List (Key × V)} {k : Key} {v : V} (e : H a = some (.dK kvs)) (hl : kvs.length < sizeLine) : DPut H a (kV k) v (upd H a (.dK (putK kvs k v))) := .inl ⟨kvs, k, e, rfl, hl, rfl⟩
theorem DPut.t {H : Hp} {a b : Addr} {kvs : List (List Key × V)} {k : List Key} {v : V} (e : H a = some (.dT kvs)) (eb : H b = some (.tup (k.map kV))) (hl : kvs.length < sizeLine) :
    DPut H a (.ref b) v (upd H a (.dT (putK kvs k v))) := .inr ⟨kvs, k, b, e, rfl, eb, hl, rfl⟩
section
variable {X : Cx} {pins : List (Addr × Obj)} {σ : St} {H : Hp} {s : Shared} {a : Addr} {y v : V} {u r : Value} {o : Option V} {A : Around} {E : Value → Shared → Prop}
theorem Inv.big (I : Inv X pins σ H s) : sysModules < s.heap.objs.size := by
  have h : mainGlobals < s.heap.objs.size := (I.mod.glob.keeps I.bk).lt
  exact Nat.lt_trans (by decide) h
theorem d_getItem {Q : Value → Shared → Prop} (hu : A.units + 1 < cLine) (I : Inv X pins σ H s) (g : DGet H a y (some v)) (ry : RelV y u) (h : ∀ w' s', Inv X pins σ H s' → RelV v w' → Q w' s') :
    wpAny (model X.prog X.w) A (getItem (.ref a) u) Q E s := by
  rcases g with ⟨kvs, k, e, ey, l⟩ | ⟨kvs, k, b, e, ey, eb, l⟩
  · subst ey
    obtain ⟨z, hd, vs, rel, dd⟩ := dk_rd I.hok e
    obtain ⟨w', hw, rw'⟩ := RelO.some_of (v := v) (o := valueAt vs k) (by rw [l]; exact rel.val k)
    exact wpAny_getItem_of (kV_is ry) dd.mapOf hw (h w' _ (I.tok _) rw')
  · subst ey
    cases (show u = Value.ref b from ry)
    obtain ⟨z, hd, xs, rel, dd⟩ := dt_rd I.hok e
    obtain ⟨w', hw, rw'⟩ := RelO.some_of (v := v) (o := (atKey xs k).map (·.2)) (by rw [l]; exact rel.val k)
    obtain ⟨p, hp, hp2⟩ := Option.map_eq_some_iff.mp hw
    refine wpAny_getItem_heap (tupleKind_room_in1 hu) (key_of I.hok eb) dd hp ?_
    rw [hp2]
    exact h w' _ (I.tok _) rw'
theorem d_in {Q : Value → Shared → Prop} (hu : A.units + 1 < cLine) (I : Inv X pins σ H s) (g : DGet H a y o) (ry : RelV y u) (h : ∀ s', Inv X pins σ H s' → Q (.bool o.isSome) s') :
    wpAny (model X.prog X.w) A (compareOp .In u (.ref a)) Q E s := by
  rcases g with ⟨kvs, k, e, ey, l⟩ | ⟨kvs, k, b, e, ey, eb, l⟩
  · subst ey
    obtain ⟨z, hd, vs, rel, dd⟩ := dk_rd I.hok e
    refine wpAny_in_of (kV_is ry) hd dd.mapOf ?_
    rw [← (rel.val k).isSome_eq, ← l]
    exact h _ (I.tok _)
  · subst ey
    cases (show u = Value.ref b from ry)
    obtain ⟨z, hd, xs, rel, dd⟩ := dt_rd I.hok e
    refine wpAny_in_heap (tupleKind_room_in1 hu) (key_of I.hok eb) hd dd ?_
    have q := (rel.val k).isSome_eq
    rw [Option.isSome_map] at q
    rw [← q, ← l]
    exact h _ (I.tok _)
theorem d_notIn {Q : Value → Shared → Prop} (hu : A.units + 1 < cLine) (I : Inv X pins σ H s) (g : DGet H a y o) (ry : RelV y u) (h : ∀ s', Inv X pins σ H s' → Q (.bool (!o.isSome)) s') :
    wpAny (model X.prog X.w) A (compareOp .NotIn u (.ref a)) Q E s := by
  rcases g with ⟨kvs, k, e, ey, l⟩ | ⟨kvs, k, b, e, ey, eb, l⟩
  · subst ey
    obtain ⟨z, hd, vs, rel, dd⟩ := dk_rd I.hok e
    refine wpAny_notIn_of (kV_is ry) hd dd.mapOf ?_
    rw [← (rel.val k).isSome_eq, ← l]
    exact h _ (I.tok _)
  · subst ey
    cases (show u = Value.ref b from ry)
    obtain ⟨z, hd, xs, rel, dd⟩ := dt_rd I.hok e
    refine wpAny_notIn_heap (tupleKind_room_in1 hu) (key_of I.hok eb) hd dd ?_
    have q := (rel.val k).isSome_eq
    rw [Option.isSome_map] at q
    rw [← q, ← l]
    exact h _ (I.tok _)
theorem d_write {h' : Heap} {t' : Nat} {ob : HO} (I : Inv X pins σ H s) (mu : Mut (H a)) (hs : Heap.SameBut a s.heap h') (he : ∃ q, h'.get? a = some q) (new : ObjOk X.prog X.w (upd H a ob) h' a ob) :
    Inv X pins σ (upd H a ob) { s with heap := h', toks := t' } :=
  I.write (x := a) (e := a) mu (.inl rfl) (fun b q hb z => (hs.2 b hb).trans z) he new
theorem dk_new {P : Program} {w : World} {H' : Hp} {h' : Heap} {kvs : List (Key × V)} {vs : List (Key × Value)} (z : kvs.length ≤ sizeLine) (hd : (a == sysModules) = false) (rel : KV kvs vs) (dd : h'.DictOf (mixKind P w) a vs) :
    ObjOk P w H' h' a (.dK kvs) := ⟨z, hd, vs, rel, dd⟩
theorem d_setItem {H' : Hp} {Q : Unit → Shared → Prop} (hu : A.units + 1 < cLine) (I : Inv X pins σ H s) (g : DPut H a y v H') (ry : RelV y u) (rv : RelV v r) (h : ∀ s', Inv X pins σ H' s' → Q () s') :
    wpAny (model X.prog X.w) A (setItem (.ref a) u r) Q E s := by
  rcases g with ⟨kvs, k, e, ey, l, eH⟩ | ⟨kvs, k, b, e, ey, eb, l, eH⟩
  · subst ey eH
    obtain ⟨z, hd, vs, rel, dd⟩ := dk_of I.hok e
    have hz : vs.length ≤ sizeLine := by rw [← rel.length]; exact z
    have hl : (putK kvs k v).length ≤ sizeLine := by have := length_putK kvs k v; omega
    refine wpAny_setItem_pairs (hsz := hz) (kV_is ry) dd fun h' dd' hs => h _ ?_
    have he : ∃ q, h'.get? a = some q := let ⟨q, _, _, hq, _⟩ := dd'; ⟨q, hq⟩
    exact d_write I (by rw [e]; exact True.intro) hs he (dk_new hl hd (rel.put k rv) dd')
  · subst ey eH
    cases (show u = Value.ref b from ry)
    obtain ⟨z, hd, xs, rel, dd⟩ := dt_of I.hok e
    have hz : xs.length ≤ sizeLine := by rw [← Paired.length rel]; exact z
    have hl : (putK kvs k v).length ≤ sizeLine := by have := length_putK kvs k v; omega
    refine wpAny_setItem_heap (hsz := hz) (tupleKind_room_in1 hu) (key_of I.hok eb) dd fun h' dd' hs => h _ ?_
    obtain ⟨q, es, ep, hq, h2, h3, h4, _, h5⟩ := dd'
    refine d_write I (by rw [e]; exact True.intro) hs ⟨q, hq⟩ ⟨hl, hd, _, (rel.put k eb rv).keeps fun c ys ec => ?_, q, es, ep, hq, h2, h3, h4, h5⟩
    rw [upd_ne (ne_of ec e (fun z => nomatch z))]
    exact ec
end
section
variable {X : Cx} {pins : List (Addr × Obj)} {σ : St} {H : Hp} {s : Shared} {a : Addr} {kvs : List (Key × V)} {k : Key} {u : Value} {A : Around} {E : Value → Shared → Prop}
end
noncomputable def NoSl (i : Expr) : Prop := ∀ ov iv, subscripted i false ov iv = operate [ov, iv] (getItem ov iv)
theorem subD_of {prog : Program} {w : World} {A : Around} {E : Value → Shared → Prop} {s : Shared} {env : Env} {value slice : Expr} {pos : Pos} {T id : String} {Q : Value → Shared → Prop}
    (hl : typeLookup (.type T) "__getitem__" = pure (some (.builtin id))) (hs : NoSl slice)
    (h : wpAny (model prog w) A (eval value env) (fun o s₁ => wpAny (model prog w) A (eval slice env) (fun i s₂ => s₂.TypeIs o T ∧ wpAny (model prog w) A (getItem o i) Q E s₂) E s₁) E s) :
    wpAny (model prog w) A (eval (.Subscript value slice pos) env) Q E s := by
  refine Subscript_ (wpAny_mono h (fun o s₁ h₁ => wpAny_mono h₁ (fun i s₂ h₂ => ?_) fun _ _ x => x) fun _ _ x => x)
  obtain ⟨hT, h₂⟩ := h₂
  unfold subscriptTail
  refine wpAny_bind ?_
  rw [getitemInPython_of_ne hT.not_modules]
  refine wpAny_bind (wpAny_specialOf hT hl ?_)
  have fin : wpAny (model prog w) A (subscripted slice false o i) (fun r s₃ => wpAny (model prog w) A (letTemporaryGo value o r >>= fun _ => pure r) Q E s₃) E s₂ := by
    rw [hs o i]
    exact wpAny_operating (wpAny_mono h₂ (fun r s₃ h₃ => wpAny_bind (wpAny_letTemporaryGo (wpAny_pure h₃))) fun _ _ x => x)
  first
    | exact wpAny_pure (wpAny_bind fin)
    | exact wpAny_bind (wpAny_pure (wpAny_bind fin))
    | exact wpAny_bind fin
theorem dict_typeIs {X : Cx} {pins : List (Addr × Obj)} {σ : St} {H : Hp} {s : Shared} {a : Addr} {y : V} {o : Option V} (I : Inv X pins σ H s) (g : DGet H a y o) : s.TypeIs (.ref a) "dict" := by
  rcases g with ⟨kvs, k, e, _, _⟩ | ⟨kvs, k, b, e, _, _, _⟩
  · obtain ⟨_, _, vs, _, dd⟩ := dk_rd I.hok e
    exact dd.typeIs
  · obtain ⟨_, _, xs, _, dd⟩ := dt_rd I.hok e
    exact dd.typeIs
noncomputable def tDGet (td ty : TE) : TE := fun σ H Q => td σ H fun x H1 => ty σ H1 fun y H2 => ∃ a v, x = .ref a ∧ DGet H2 a y (some v) ∧ Q v H2
noncomputable def tDIn (ty td : TE) : TE := fun σ H Q => ty σ H fun y H1 => td σ H1 fun x H2 => ∃ a o, x = .ref a ∧ DGet H2 a y o ∧ Q (.bl o.isSome) H2
noncomputable def tDNotIn (ty td : TE) : TE := fun σ H Q => ty σ H fun y H1 => td σ H1 fun x H2 => ∃ a o, x = .ref a ∧ DGet H2 a y o ∧ Q (.bl (!o.isSome)) H2
noncomputable def sDPut (td ty tv : TE) : TS := fun D σ H => tv σ H fun v H1 => td σ H1 fun x H2 => ty σ H2 fun y H3 => ∃ a H4, x = .ref a ∧ DPut H3 a y v H4 ∧ D.nx σ H4
section
variable {X : Cx} {o i e value : Expr} {pos pos' tpos : Pos} {td ty tv : TE}
theorem pe_dget (hu : X.A.units + 1 < cLine) (ho : PE X o td) (hi : PE X i ty) (hs : NoSl i) : PE X (.Subscript o i pos) (tDGet td ty) := by
  intro pins s σ H Q I h
  refine subD_of PySem.F.slot_dict_getitem.lookup hs (thn (ho pins s σ H _ I h) fun u s1 ⟨x, H1, I1, rx, q1⟩ => thn (hi pins s1 σ H1 _ I1 q1) fun iv s2 ⟨y, H2, I2, ry, a, v, ex, g, q2⟩ => ?_)
  subst ex
  obtain rfl : u = Value.ref a := rx
  exact ⟨dict_typeIs I2 g, d_getItem hu I2 g ry fun w' s3 I3 rw' => ⟨v, H2, I3, rw', q2⟩⟩
theorem pc_din (hu : X.A.units + 1 < cLine) (hi : PE X i ty) (ho : PE X o td) : PC X .In i o (tDIn ty td) := by
  intro pins s σ H Q I h
  refine thn (hi pins s σ H _ I h) fun iv s1 ⟨y, H1, I1, ry, q1⟩ => thn (ho pins s1 σ H1 _ I1 q1) fun u s2 ⟨x, H2, I2, rx, a, ov, ex, g, q2⟩ => ?_
  subst ex
  obtain rfl : u = Value.ref a := rx
  exact d_in hu I2 g ry fun s3 I3 => ⟨.bl ov.isSome, H2, I3, rfl, q2⟩
theorem pc_dnotin (hu : X.A.units + 1 < cLine) (hi : PE X i ty) (ho : PE X o td) : PC X .NotIn i o (tDNotIn ty td) := by
  intro pins s σ H Q I h
  refine thn (hi pins s σ H _ I h) fun iv s1 ⟨y, H1, I1, ry, q1⟩ => thn (ho pins s1 σ H1 _ I1 q1) fun u s2 ⟨x, H2, I2, rx, a, ov, ex, g, q2⟩ => ?_
  subst ex
  obtain rfl : u = Value.ref a := rx
  exact d_notIn hu I2 g ry fun s3 I3 => ⟨.bl (!ov.isSome), H2, I3, rfl, q2⟩
theorem ps_dput (hu : X.A.units + 1 < cLine) (ho : PE X o td) (hi : PE X i ty) (hv : PE X value tv) (hs : swapsWith value (some (.Subscript o i pos')) pos.line X.env = pure false) :
    PS X (.Assign [.Subscript o i pos'] value pos) (sDPut td ty tv) := by
  intro pins s σ H D I h
  refine wpAny_Assign_Subscript (thn (hv pins s σ H _ I h) fun r s1 ⟨v, H1, I1, rv, q1⟩ => thn (ho pins s1 σ H1 _ I1 q1) fun u s2 ⟨x, H2, I2, rx, q2⟩ => thn (hi pins s2 σ H2 _ I2 q2) fun iv s3 ⟨y, H3, I3, ry, a, H4, ex, g, q3⟩ => ?_) hs
  subst ex
  obtain rfl : u = Value.ref a := rx
  exact d_setItem hu I3 g ry rv fun s4 I4 => ⟨σ, H4, I4, q3⟩
end
theorem dk_empty {P : Program} {w : World} {H : Hp} (h : Heap) (hb : sysModules < h.objs.size) : ObjOk P w H (h.push { cls := .type "dict", data := .dict #[] }) h.objs.size (.dK []) :=
  ⟨Nat.zero_le _, beq_eq_false_iff_ne.mpr (Ne.symm (Nat.ne_of_lt hb)), [], .nil, Heap.DictOf.new h⟩
theorem dt_empty {P : Program} {w : World} {H : Hp} (h : Heap) (hb : sysModules < h.objs.size) : ObjOk P w H (h.push { cls := .type "dict", data := .dict #[] }) h.objs.size (.dT []) :=
  ⟨Nat.zero_le _, beq_eq_false_iff_ne.mpr (Ne.symm (Nat.ne_of_lt hb)), [], .nil, _, #[], 0, Heap.get?_push_size _ rfl, ⟨rfl, rfl, rfl⟩, rfl, rfl, List.nodup_nil⟩
noncomputable def tDNewK : TE := fun _ H Q => ∀ p, H p = none → Q (.ref p) (upd H p (.dK []))
noncomputable def tDNewT : TE := fun _ H Q => ∀ p, H p = none → Q (.ref p) (upd H p (.dT []))
section
variable {X : Cx} {pos : Pos}
theorem pe_dnewK : PE X (.Dict [] [] pos) tDNewK := fun pins s σ H Q I h =>
  wpAny_Dict_empty ⟨.ref s.heap.objs.size, _, I.laid (a := s.heap.objs.size) (o := .dK []) (t' := s.toks) (fun _ _ q => Heap.get?_push_of_some _ q) (Nat.le_refl _) (dk_empty s.heap I.big), rfl, h _ (I.hok.fresh (Nat.le_refl _))⟩
theorem pe_dnewT : PE X (.Dict [] [] pos) tDNewT := fun pins s σ H Q I h =>
  wpAny_Dict_empty ⟨.ref s.heap.objs.size, _, I.laid (a := s.heap.objs.size) (o := .dT []) (t' := s.toks) (fun _ _ q => Heap.get?_push_of_some _ q) (Nat.le_refl _) (dt_empty s.heap I.big), rfl, h _ (I.hok.fresh (Nat.le_refl _))⟩
end
noncomputable abbrev VV : List (V × V) → List (Value × Value) → Prop := Paired fun p q => RelV p.1 q.1 ∧ RelV p.2 q.2
section
variable {X : Cx} {pins : List (Addr × Obj)} {σ : St} {H : Hp} {s : Shared} {a : Addr} {y d : V} {u r : Value} {o : Option V} {A : Around} {E : Value → Shared → Prop}
end
section
variable {X : Cx} {o e f : Expr} {apos cpos : Pos} {td ty tx : TE}
end
section
variable {X : Cx} {pins : List (Addr × Obj)} {σ : St} {H : Hp} {s : Shared} {a : Addr} {kvs : List (Key × V)} {A : Around} {E : Value → Shared → Prop}
end
section
variable {X : Cx} {pins : List (Addr × Obj)} {σ : St} {H : Hp} {s : Shared} {a : Addr} {y : V} {u : Value} {A : Around} {E : Value → Shared → Prop}
end
end L2
namespace L2
open PySem PySem.Spec PyProof.Rows
section
variable {X : Cx}
end
section
variable {κ : Type} [DecidableEq κ]
end
end L2
set_option Elab.async false
set_option linter.all false
set_option maxRecDepth 100000
set_option maxHeartbeats 16000000
namespace L2
open PySem PySem.Spec PyProof.Rows
theorem keys_miss {prog : Program} {w : World} {A : Around} {E : Value → Shared → Prop} {s : Shared} {a : Addr} {items : Array Value} {Q : Option Value → Shared → Prop} (hL : s.heap.IsTuple a items) (hn : ∀ o, s.heap.get? a = some o → o.dict = none) (hA : A.handled = none)
    (h : ∀ h' tk, (∀ b ob, s.heap.get? b = some ob → h'.get? b = some ob) → Q none { s with heap := h', toks := tk }) : wpAny (model prog w) A (getAttr? (.ref a) "keys") Q E s := by
  obtain ⟨⟨c, dct, dat, sl⟩, hx, hc, k, hd⟩ := hL
  have hdn := hn _ hx
  simp only at hc hd hdn
  subst hc hd hdn
  obtain ⟨hp, g, d, tk, os⟩ := s
  have hT : ∀ tk', (⟨hp, g, d, tk', os⟩ : Shared).TypeIs (.ref a) "tuple" := fun _ => ⟨_, hx, rfl⟩
  have f1 := sub_AttributeError
  have f3 := F.slot_tuple_getattribute.lookup
  have f4 := F.slot_tuple_getattribute.bind (.ref a)
  have f5 := am_tuple_getattr_none
  have hmiss : typeLookup (.type "tuple") "keys" = pure none := am_miss_of_fast (by decide +kernel)
  unfold getAttr? getAttrBy? getAttrBy
  repeat (any_goals (first | assumption | exact hT _ | ((with_reducible show wpAny _ _ (call (Value.builtin "tuple.__getattribute__") _ _) _ _ _); refine call_meets F.slot_tuple_getattribute (hT _) am_entry_tuple_getattribute (F.args_tuple_getattribute_2 _ _) (meets_getattribute_miss_tuple a items k sl "keys" _ hmiss (by decide +kernel) (by decide +kernel)) ⟨hx, hA, fun h' tk' e hx' => ?_⟩) | wp_step))
  obtain ⟨t', u', he⟩ := hx'.there
  show wpAny _ _ (getattributeRaised _ _ _ _ _ _ _) _ _ _
  unfold getattributeRaised
  repeat (any_goals (first | assumption | wp_step))
  exact h _ _ hx'.keeps
theorem entry_dul : entryFor table "dict.update.loop" = some Builtin.«dict.update.loop» := entryFor_of_fast (by kernel_rfl)
theorem plain_dul : plainId "dict.update.loop" = true := by decide +kernel
section
variable {X : Cx}
noncomputable def tTupF (t : TA) : TE := fun σ H Q => t σ H fun xs H1 => xs.length ≤ sizeLine ∧ ∀ p (o : Obj), H1 p = none → o.dict = none → Q (.ref p) (upd H1 p (.frz o (.tup xs)))
theorem pe_tupF {x1} {es : List Expr} {t : TA} {pos : Pos} (h : PA X es t) : PE X (.Tuple es x1 pos) (tTupF t) := by
  intro pins s σ H Q I hq
  refine wpAny_Tuple_spliced (thn (h pos pins s σ H _ I hq) fun us s1 ⟨xs, H1, I1, r, z, q⟩ => ⟨by rw [← r.length]; exact z, ?_⟩)
  have hf : H1 s1.heap.objs.size = none := I1.hok.fresh (Nat.le_refl _)
  refine ⟨.ref s1.heap.objs.size, _, I1.laid (t' := s1.toks) (fun b u e => Heap.get?_push_of_some _ e) (Nat.le_refl _) ?_, rfl, q _ { cls := .type "tuple", data := .seq us.toArray } hf rfl⟩
  exact ⟨Heap.get?_push_size _ rfl, z, us, r, ⟨_, Heap.get?_push_size _ rfl, rfl, _, rfl⟩⟩
noncomputable def foldP (ps : List (Str × V)) (m : List (Key × V)) : List (Key × V) := ps.foldl (fun m p => putK m (Sum.inr p.1) p.2) m
theorem dict_loop (hc : X.calm = true) {A : Around} (hA : A.handled = none) {pins : List (Addr × Obj)} {σ : St} {H0 : Hp} {Q : VK} {a d it : Addr} {vs : List V} (hda : d ≠ a) (hit : it ≠ a) (hdi : d ≠ it) :
    ∀ (n i : Nat) (s : Shared) (m : List (Key × V)) (ps : List (Str × V)) (j : Int) (tk : Tok), n = vs.length - i → Inv X pins σ (upd H0 d (.dK m)) s → s.heap.IsTupleIter it a i → FpOk X pins (upd H0 d (.dK m)) it → SqT X.K (upd H0 d (.dK m)) a vs →
      Paired (fun v (p : Str × V) => ∃ t, v = .ref t ∧ t ≠ d ∧ SqT X.K H0 t [.str p.1, p.2]) (vs.drop i) ps → m.length + ps.length ≤ 1000 → H0 it = none →
      Q (.ref d) (upd H0 d (.dK (foldP ps m))) → codeAny (model X.prog X.w) A (.builtin "dict.update.loop" ⟨[.ref d, .ref it, .int j tk, .none], []⟩) (wants (fun u s' => u = .none ∧ ∃ H', Inv X pins σ H' s' ∧ Q (.ref d) H') (fun _ _ => False)) s := by
  intro n
  induction n with
  | zero =>
    intro i s m ps j tk hn I st fp hsq hp hlen hn0 q
    have hd : vs.drop i = [] := List.drop_eq_nil_of_le (by omega)
    rw [hd] at hp
    cases hp
    obtain ⟨its, rv, pt, hz⟩ := I.tuple hsq
    have hl := rv.length
    obtain ⟨f0, f1, f2, f3, f4, f5⟩ := fp
    refine codeAny_builtin entry_dul ?_
    rw [Around.under_plainId plain_dul _]
    show wpAny _ A.in1 (pyNext (.ref it) >>= _) _ _ s
    refine wpAny_bind (wpAny_pyNext_tuple_end (A := A.in1) hA st (show s.heap.IsTuple a its.toArray from pt) (by simp; omega) fun h' eb => ?_)
    have I' : Inv X pins σ (upd H0 d (.dK m)) { s with heap := h' } := I.turned (t' := s.toks) (fun b o hb e => eb b o hb e) f0 f1 f3 f4 f5
    show wpAny _ _ (Builtin.Dict.addKeywords d [] >>= _) _ _ _
    exact wpAny_bind (wpAny_pure (wpAny_pure ⟨rfl, _, I', q⟩))
  | succ n ih =>
    intro i s m ps j tk hn I st fp hsq hp hlen hn0 q
    have hi : i < vs.length := by omega
    have hdr : vs.drop i = vs[i] :: vs.drop (i + 1) := List.drop_eq_getElem_cons hi
    rw [hdr] at hp
    cases hp with
    | @cons _ p _ ps' h1 hrest =>
    obtain ⟨t, e, htd, ht⟩ := h1
    obtain ⟨its, rv, pt, hz⟩ := I.tuple hsq
    have hl := rv.length
    have hx : vs[i]? = some (V.ref t) := by simp [hi, e]
    obtain ⟨u, hu, ru⟩ := rv.get hx
    cases ru
    obtain ⟨f0, f1, f2, f3, f4, f5⟩ := id fp
    refine codeAny_builtin entry_dul ?_
    rw [Around.under_plainId plain_dul _]
    show wpAny _ A.in1 (pyNext (.ref it) >>= _) _ _ s
    refine wpAny_bind (wpAny_pyNext_tuple_item (A := A.in1) st (show s.heap.IsTuple a its.toArray from pt) (x := .ref t) (by simpa using hu) fun h' st' sb => ?_)
    have I' : Inv X pins σ (upd H0 d (.dK m)) { s with heap := h' } := I.turned (t' := s.toks) (fun b o hb e => (sb.2 b hb).trans e) f0 f1 f3 f4 f5
    have ht' : SqT X.K (upd H0 d (.dK m)) t [.str p.1, p.2] := by
      rcases ht with (ht | ⟨o, ht⟩) | ht
      · exact .inl (.inl (by rw [upd_ne htd]; exact ht))
      · exact .inl (.inr ⟨o, by rw [upd_ne htd]; exact ht⟩)
      · exact .inr ht
    obtain ⟨kv, rkv, ptt, _⟩ := I'.tuple ht'
    cases rkv with
    | @cons _ ku _ _ rk rr =>
    cases rr with
    | @cons _ vu _ _ rvv rr =>
    cases rr
    obtain ⟨tk2, rfl⟩ := rk
    have hTy : (⟨h', s.gens, s.drawn, s.toks, s.os⟩ : Shared).TypeIs (.ref t) "tuple" := by obtain ⟨o, ho, hcl, _⟩ := ptt; exact ⟨o, ho, hcl⟩
    dsimp only
    obtain ⟨ot, hot, hoc, kt, hodat⟩ := ptt
    obtain ⟨z, hsm, ws, rel, dd⟩ := dk_of I'.hok (upd_same (H := H0) (a := d) (o := .dK m))
    have hz2 : ws.length ≤ sizeLine := by rw [← rel.length]; exact z
    refine wpAny_bind (wpAny_holding (wpAny_bind (wpAny_tryCatch ?_)))
    unfold Builtin.Dict.pairItems
    refine wpAny_bind (wpAny_typeOf hTy ?_)
    rw [if_pos (by decide)]
    refine wpAny_bind (wpAny_seqItems hot hodat (wpAny_pure ?_))
    show wpAny _ _ (holding [Value.str p.1 tk2, vu] (dictSet d (Value.str p.1 tk2) vu)) _ _ _
    refine wpAny_holding (wpAny_dictSet_pairs (knd := mixKind X.prog X.w) (k := Sum.inr p.1) (mixKind_str X.prog X.w p.1 tk2) dd (fun h2 dd2 sb2 => ?_) hz2)
    have hl2 : (putK m (Sum.inr p.1) p.2).length ≤ sizeLine := by
      have h3 := length_putK m (Sum.inr p.1) p.2
      have : sizeLine = 16777216 := sizeLine_eq
      simp only [List.length_cons] at hlen
      omega
    have he : ∃ q, h2.get? d = some q := let ⟨q, _, _, hq, _⟩ := dd2; ⟨q, hq⟩
    have I2 : Inv X pins σ (upd (upd H0 d (.dK m)) d (.dK (putK m (Sum.inr p.1) p.2))) { heap := h2, gens := s.gens, drawn := s.drawn, toks := s.toks + 1, os := s.os } :=
      d_write (s := { heap := h', gens := s.gens, drawn := s.drawn, toks := s.toks, os := s.os }) (t' := s.toks + 1) I' (by rw [upd_same]; exact True.intro) sb2 he (dk_new hl2 hsm (rel.put _ rvv) dd2)
    rw [upd_upd] at I2
    refine wpAny_pure ⟨plainId_quiet plain_dul _, ?_⟩
    have hsq2 : SqT X.K (upd H0 d (.dK (putK m (Sum.inr p.1) p.2))) a vs := by
      rcases hsq with (h | ⟨o, h⟩) | h
      · rw [upd_ne hda.symm] at h; exact .inl (.inl (by rw [upd_ne hda.symm]; exact h))
      · rw [upd_ne hda.symm] at h; exact .inl (.inr ⟨o, by rw [upd_ne hda.symm]; exact h⟩)
      · exact .inr h
    refine ih (i + 1) _ (putK m (Sum.inr p.1) p.2) ps' (j + 1) _ (by omega) I2 ?_ ⟨by rw [upd_ne hdi.symm]; exact hn0, f1, f2, f3, f4, f5⟩ hsq2 hrest ?_ hn0 q
    · obtain ⟨oi, hoi, r⟩ := st'
      exact ⟨oi, (sb2.2 it hdi.symm).trans hoi, r⟩
    · have h3 := length_putK m (Sum.inr p.1) p.2
      simp only [List.length_cons] at hlen
      omega
theorem call_dictT (hc : X.calm = true) : CallR X (.type "dict") (fun xs H Q => ∃ (a : Addr) (o : Obj) (vs : List V) (ps : List (Str × V)), xs = [.ref a] ∧ H a = some (.frz o (.tup vs)) ∧ o.dict = none ∧ Paired (fun v (p : Str × V) => ∃ t, v = .ref t ∧ SqT X.K H t [.str p.1, p.2]) vs ps ∧ ps.length ≤ 1000 ∧
    ∀ d, H d = none → Q (.ref d) (upd H d (.dK (foldP ps [])))) := by
  intro pins s σ H xs us Q I r h
  obtain ⟨a, o, vs, ps, rfl, ha, hod, hp, hlen, q⟩ := h
  obtain ⟨u, rfl, ru⟩ := vals1 r
  cases ru
  have hsq : SqT X.K H a vs := .inl (.inr ⟨o, ha⟩)
  obtain ⟨its, rv, pt, hz⟩ := I.tuple hsq
  have hobj : s.heap.get? a = some o := (I.hok a _ ha).1
  have hfr : H s.heap.objs.size = none := I.hok.fresh (Nat.le_refl _)
  refine callType_codes (Q₁ := fun obj s₁ => obj = .ref s.heap.objs.size ∧ s₁ = { s with heap := s.heap.push { cls := .type "dict", data := .dict #[] } }) F.kt_called_dict (F.kt_typeCall_dict_1 _) F.entry_dict_init (kt_code_dict_new _ ⟨rfl, rfl⟩) ?_
  rintro obj s₁ ⟨rfl, rfl⟩
  have I1 : Inv X pins σ (upd H s.heap.objs.size (.dK [])) { s with heap := s.heap.push { cls := .type "dict", data := .dict #[] } } :=
    I.laid (a := s.heap.objs.size) (o := .dK []) (t' := s.toks) (fun _ _ q => Heap.get?_push_of_some _ q) (Nat.le_refl _) (dk_empty s.heap I.big)
  have hnew : (s.heap.push { cls := .type "dict", data := .dict #[] }).DictOf (mixKind X.prog X.w) s.heap.objs.size [] := Heap.DictOf.new s.heap
  refine ⟨hnew.typeIs, F.args_dict_init_2 _ _, ?_⟩
  unfold Builtin.«dict.__init__»
  refine wpAny_bind ?_
  unfold Builtin.Dict.selfAndRest
  refine wpAny_bind (wpAny_notOrdered_dict hnew.typeIs ?_)
  show wpAny _ _ (pure (s.heap.objs.size, [Value.ref a])) _ _ _
  refine wpAny_pure ?_
  show wpAny _ _ (Builtin.Dict.updateFrom "dict.__init__" s.heap.objs.size (.ref a) [] .none) _ _ _
  have had : s.heap.objs.size ≠ a := Ne.symm (ne_of_none ha hfr)
  have hobj1 : (s.heap.push { cls := .type "dict", data := .dict #[] }).get? a = some o := Heap.get?_push_of_some _ hobj
  have htp : (s.heap.push { cls := .type "dict", data := .dict #[] }).IsTuple a its.toArray := by
    obtain ⟨o2, h1, h2⟩ := pt
    exact ⟨o2, Heap.get?_push_of_some _ h1, h2⟩
  unfold Builtin.Dict.updateFrom
  refine wpAny_bind (wpAny_typeOf (s := { s with heap := s.heap.push { cls := .type "dict", data := .dict #[] } }) (T := "tuple") (by obtain ⟨o2, h1, h2, _⟩ := htp; exact ⟨o2, h1, h2⟩) ?_)
  rw [if_pos (by decide)]
  refine wpAny_bind (keys_miss htp (fun o2 h2 => by rw [hobj1] at h2; cases h2; exact hod) (I.ok.hd hc) fun h' tk hk => ?_)
  rw [if_pos (show (none : Option Value).isNone = true from rfl)]
  refine wpAny_bind (wpAny_rule ?_)
  have I2 : Inv X pins σ (upd H s.heap.objs.size (.dK [])) { s with heap := h', toks := tk } := I1.kept hk
  have htp2 : h'.IsTuple a its.toArray := by
    obtain ⟨o2, h1, h2⟩ := htp
    exact ⟨o2, hk _ _ h1, h2⟩
  refine wpAny_bind (wpAny_pyIter_tuple (s := { s with heap := h', toks := tk }) htp2 ?_)
  refine wpAny_pure ⟨plainId_quiet plain_dul _, ?_⟩
  have I3 := I2.kept (h' := h'.push { cls := .type "tuple_iterator", data := .fields #[.ref a, .int 0 0] }) (t' := tk) fun b ob e => Heap.get?_push_of_some _ e
  have hfi : upd H s.heap.objs.size (.dK []) h'.objs.size = none := I2.hok.fresh (Nat.le_refl _)
  have hdi : s.heap.objs.size ≠ h'.objs.size := by
    intro z
    rw [← z, upd_same] at hfi
    cases hfi
  have hfi0 : H h'.objs.size = none := by rw [upd_ne hdi.symm] at hfi; exact hfi
  have hia : h'.objs.size ≠ a := fun z => by
    rw [z, ha] at hfi0
    cases hfi0
  have hsq1 : SqT X.K (upd H s.heap.objs.size (.dK [])) a vs := .inl (.inr ⟨o, by rw [upd_ne had.symm]; exact ha⟩)
  have L := dict_loop (X := X) hc (A := X.A.in1) (I.ok.hd hc) (pins := pins) (σ := σ) (H0 := H) (Q := Q) (a := a) (d := s.heap.objs.size) (it := h'.objs.size) (vs := vs) had hia hdi vs.length 0 _ [] ps 0 0 (by omega) I3 ⟨_, Heap.get?_push_size _ rfl, rfl, rfl⟩ (I2.fpOk (Nat.le_refl _) hfi) hsq1
    (Paired.mapP hp fun v p ⟨t, e, ht⟩ => ⟨t, e, fun z => ?_, ht⟩) (by simpa using hlen) hfi0 (q _ hfr)
  · refine codeAny_mono L fun r s' hr => ?_
    cases r with
    | error e => exact False.elim hr
    | ok f =>
      cases f with
      | ret v =>
        obtain ⟨e, H', I', q'⟩ := hr
        exact ⟨e, .ref s.heap.objs.size, H', I', rfl, q'⟩
      | next => exact False.elim hr
      | brk => exact False.elim hr
      | cont => exact False.elim hr
  · obtain ⟨its2, _, ⟨o2, h2, _⟩, _⟩ := I.tuple ht
    rw [z] at h2
    exact absurd (Heap.lt_size h2) (Nat.lt_irrefl _)
end
end L2
set_option Elab.async false
set_option linter.all false
set_option maxRecDepth 100000
set_option maxHeartbeats 16000000
namespace L2
open PySem PySem.Spec PyProof.Rows PySem.W
section
variable {prog : Program} {w : World} {A : Around} {E : Value → Shared → Prop} {s : Shared} {T : String} {r d : Addr} {n : Nat} {P : Nat → Value → Prop} {OK : Heap → Prop}
end
section
variable {X : Cx}
end
end L2
set_option Elab.async false
set_option linter.all false
set_option maxRecDepth 100000
set_option maxHeartbeats 16000000
namespace L2
open PySem PySem.Spec PyProof.Rows
noncomputable def kindS : Rw → Str
  | .bring _ _ => "bring"
  | .give _ _ => "give"
  | .set _ _ => "set"
  | .take _ => "take"
  | .say _ _ => "say"
  | .need _ => "need"
  | .ask _ _ => "ask"
  | .part _ => "part"
  | .doo _ => "do"
noncomputable def addN (l : List Str) (x : Str) : List Str := if x ∈ l then l else l ++ [x]
noncomputable def setD (l : List Str) : List (Key × V) := l.map fun x => (Sum.inr x, .bl true)
theorem setD_len (l : List Str) : (setD l).length = l.length := List.length_map _
theorem setD_any (l : List Str) (x : Str) : ((setD l).any fun kv => decide (kv.1 = Sum.inr x)) = decide (x ∈ l) := by
  induction l with
  | nil => simp [setD]
  | cons a r ih =>
    have : setD (a :: r) = (Sum.inr a, .bl true) :: setD r := rfl
    rw [this, List.any_cons, ih]
    by_cases e : a = x
    · subst e; simp
    · have h1 : ¬ (Sum.inr a : Key) = Sum.inr x := fun z => e (Sum.inr.inj z)
      have h2 : ¬ x = a := fun z => e z.symm
      simp [e, h2]
theorem setD_put (l : List Str) (x : Str) : putK (setD l) (Sum.inr x) (.bl true) = setD (addN l x) := by
  unfold putK
  rw [setD_any]
  unfold addN
  by_cases e : x ∈ l
  · rw [if_pos (by simpa using e), if_pos e]
    unfold setD
    rw [List.map_map]
    refine List.map_congr_left fun a _ => ?_
    show (if (Sum.inr a : Key) = Sum.inr x then ((Sum.inr a : Key), V.bl true) else (Sum.inr a, V.bl true)) = _
    split <;> rfl
  · rw [if_neg (by simpa using e), if_neg e]
    unfold setD
    rw [List.map_append]
    rfl
noncomputable def PartsF (H : Hp) (a : Addr) (ps : List Pt) : Prop := ∃ o vs, H a = some (.frz o (.tup vs)) ∧ o.dict = none ∧ Paired (PartAt H) vs ps
theorem Same.partsF {H H' : Hp} (s : Same H H') {a : Addr} {ps : List Pt} (h : PartsF H a ps) : PartsF H' a ps := by
  obtain ⟨o, vs, h1, h2, h3⟩ := h
  exact ⟨o, vs, s _ _ h1, h2, Paired.mapP h3 fun _ _ q => q.mono s.tups⟩
theorem foldP_get : ∀ (ps : List (Str × V)) (m : List (Key × V)) (n : Str) (v : V), (ps.map (·.1)).Nodup → ((n, v) ∈ ps ∨ ((∀ p ∈ ps, p.1 ≠ n) ∧ valV m (Sum.inr n) = some v)) → valV (foldP ps m) (Sum.inr n) = some v
  | [], m, n, v, _, h => by
    rcases h with h | h
    · simp at h
    · exact h.2
  | p :: ps, m, n, v, hn, h => by
    rw [List.map_cons, List.nodup_cons] at hn
    show valV (foldP ps (putK m (Sum.inr p.1) p.2)) _ = _
    refine foldP_get ps _ n v hn.2 ?_
    rcases h with h | ⟨h1, h2⟩
    · rcases List.mem_cons.mp h with e | e
      · refine .inr ⟨fun q hq z => hn.1 ?_, ?_⟩
        · rw [← e]; show n ∈ _; rw [← z]; exact List.mem_map_of_mem hq
        · rw [← e]
          show valV (putK m (Sum.inr n) v) (Sum.inr n) = _
          rw [valV_put, if_pos rfl]
      · exact .inl e
    · refine .inr ⟨fun q hq => h1 q (List.mem_cons_of_mem _ hq), ?_⟩
      rw [valV_put, if_neg (fun z => h1 p List.mem_cons_self (Sum.inr.inj z).symm)]
      exact h2
theorem RowAt.kind {H : Hp} {r : Addr} {rw : Rw} (h : RowAt H r rw) : ∃ x rest, H r = some (.tup (.str (kindS rw) :: x :: rest)) := by
  cases rw with
  | bring p ps => obtain ⟨t, h1, h2⟩ := h; exact ⟨_, _, h1⟩
  | give o g => exact ⟨_, _, h⟩
  | set o ts => obtain ⟨t, h1, h2⟩ := h; exact ⟨_, _, h1⟩
  | take o => exact ⟨_, _, h⟩
  | say ts w => obtain ⟨t, h1, h2⟩ := h; exact ⟨_, _, h1⟩
  | need ts => obtain ⟨t, h1, h2⟩ := h; exact ⟨_, _, h1⟩
  | ask p w => exact ⟨_, _, h⟩
  | part p => exact ⟨_, _, h⟩
  | doo p => exact ⟨_, _, h⟩
end L2
set_option Elab.async false
set_option linter.all false
set_option maxRecDepth 100000
set_option maxHeartbeats 16000000
namespace L2
open PySem PySem.Spec PyProof.Rows
section
variable {X : Cx}
end
end L2
set_option Elab.async false
set_option linter.all false
set_option maxRecDepth 100000
set_option maxHeartbeats 16000000
namespace L2
open PySem PySem.Spec PyProof.Rows
section
variable {X : Cx}
theorem op_neL_nil (hu : X.A.units < cLine) : OpR X (compareOp .NotEq) (fun x y H Q => ∃ a b xs, x = .ref a ∧ y = .ref b ∧ SqL X.K H a xs ∧ SqL X.K H b [] ∧ Q (.bl (!xs.isEmpty)) H) := by
  intro pins s σ H x y v u Q I rx ry h
  obtain ⟨a, b, xs, rfl, rfl, ha, hb, q⟩ := h
  cases rx
  cases ry
  obtain ⟨its, r1, p1, _⟩ := I.list ha
  obtain ⟨its2, r2, p2, _⟩ := I.list hb
  cases r2
  cases xs with
  | nil =>
    cases r1
    exact SeqAt.RcNeAt.lists (e := fun _ => true) p1.isList p2.isList rfl hu (fun j h1 _ => absurd h1 (by simp)) _ _ _ _ ⟨.bl false, H, I, rfl, q⟩
  | cons c r =>
    have hl1 := r1.length
    exact SeqAt.RcNeAt.lists_lengths p1.isList p2.isList (by rw [bne_iff_ne]; intro z; simp only [List.size_toArray, List.length_nil, List.length_cons] at z hl1; omega) hu _ _ _ _ ⟨.bl true, H, I, rfl, q⟩
end
end L2
set_option Elab.async false
set_option linter.all false
set_option maxRecDepth 100000
set_option maxHeartbeats 16000000
namespace L2
open PySem PySem.Spec PyProof.Rows
section
variable {X : Cx} {elts : List Expr} {k : Nat} {tpos : Pos}
end
end L2
set_option Elab.async false
set_option linter.all false
set_option maxRecDepth 100000
set_option maxHeartbeats 16000000
namespace L2
open PySem PySem.Spec PyProof.Rows
end L2
set_option Elab.async false
set_option linter.all false
set_option maxRecDepth 100000
set_option maxHeartbeats 16000000
namespace L2
open PySem PySem.Spec PyProof.Rows
end L2
set_option Elab.async false
set_option linter.all false
set_option maxRecDepth 100000
set_option maxHeartbeats 16000000
namespace RV
open PySem PySem.Spec PyProof.Rows
theorem own_rv : Manifest.owners.lookup (String.ofList ['d', 'e', 's', 'r', 'e', 'v', 'e', 'r'].reverse) = some Manifest.sig_reversed := by kernel_rfl
theorem rv_next : Slot "reversed" "__next__" "reversed.__next__" :=
  .of (owner := "reversed") (n := "__next__") (by rw [typeLookup_type, builtinLookup_eq_fast]; kernel_rfl) (by decide +kernel) (by decide +kernel) (by decide +kernel)
    (by first | exact .inl (by decide +kernel) | exact .inr (by decide +kernel)) (by rw [isSubtype_type]; kernel_rfl)
theorem rv_iter : Slot "reversed" "__iter__" "reversed.__iter__" :=
  .of (owner := "reversed") (n := "__iter__") (by rw [typeLookup_type, builtinLookup_eq_fast]; kernel_rfl) (by decide +kernel) (by decide +kernel) (by decide +kernel)
    (by first | exact .inl (by decide +kernel) | exact .inr (by decide +kernel)) (by rw [isSubtype_type]; kernel_rfl)
theorem en_next : entryFor table "reversed.__next__" = some Builtin.«reversed.__next__» := entryFor_of_tree (by kernel_rfl)
theorem en_iter : entryFor table "reversed.__iter__" = some Builtin.«dict_keyiterator.__iter__» :=
  entryFor_alias (id' := "dict_keyiterator.__iter__") (by kernel_rfl) (by first | rfl | decide +kernel | (unfold String.splitOn; simp +decide [String.splitOnAux])) (by decide +kernel) (by kernel_rfl)
theorem ar_next (a : Value) : argsOk "reversed.__next__" ⟨[a], []⟩ := by
  unfold argsOk; rw [signature?_of (id := "reversed.__next__") (n := ['_', '_', 't', 'x', 'e', 'n', '_', '_']) (o := ['d', 'e', 's', 'r', 'e', 'v', 'e', 'r']) (by kernel_rfl) own_rv]; kernel_rfl
theorem ar_iter (a : Value) : argsOk "reversed.__iter__" ⟨[a], []⟩ := by
  unfold argsOk; rw [signature?_of (id := "reversed.__iter__") (n := ['_', '_', 'r', 'e', 't', 'i', '_', '_']) (o := ['d', 'e', 's', 'r', 'e', 'v', 'e', 'r']) (by kernel_rfl) own_rv]; kernel_rfl
theorem no_rev : typeLookup (.type "tuple") "__reversed__" = pure none := by rw [typeLookup_type, builtinLookup_eq_fast]; kernel_rfl
theorem tup_dict : isSubtype (.type "tuple") (.type "dict") = pure false := by rw [isSubtype_type]; kernel_rfl
theorem rv_rv : isSubtype (.type "reversed") (.type "reversed") = pure true := by rw [isSubtype_type]; kernel_rfl
theorem rv_init : Slot "reversed" "__init__" "object.__init__" :=
  .of (owner := "object") (n := "__init__") (by rw [typeLookup_type, builtinLookup_eq_fast]; kernel_rfl) (by decide +kernel) (by decide +kernel) (by decide +kernel)
    (by first | exact .inl (by decide +kernel) | exact .inr (by decide +kernel)) (by rw [isSubtype_type]; kernel_rfl)
theorem rv_called : TypeCalled "reversed" "reversed.__new__" "object.__init__" :=
  ⟨by decide +kernel, by decide +kernel, ⟨_, _, F.mro_reversed⟩, F.made_reversed, by decide +kernel, rv_rv, rv_init⟩
end RV
set_option Elab.async false
set_option linter.all false
set_option maxRecDepth 100000
set_option maxHeartbeats 16000000
namespace RV
open PySem PySem.Spec PyProof.Rows
noncomputable def revT (t : Addr) (i : Int) : Obj := { cls := .type "reversed", data := .fields #[.ref t, rawInt i] }
noncomputable def IsRevT (h : Heap) (a t : Addr) (i : Int) : Prop := ∃ o, h.get? a = some o ∧ o.cls = .type "reversed" ∧ o.data = .fields #[.ref t, rawInt i]
theorem IsRevT.move {h h' : Heap} {a t : Addr} {i : Int} (x : IsRevT h a t i) (e : ∀ o, h.get? a = some o → h'.get? a = some o) : IsRevT h' a t i := by
  obtain ⟨o, ho, r⟩ := x
  exact ⟨o, e o ho, r⟩
section
variable {prog : Program} {w : World} {A : Around} {E : Value → Shared → Prop} {s : Shared}
theorem IsRevT.ty {a t : Addr} {i : Int} (x : IsRevT s.heap a t i) : s.TypeIs (.ref a) "reversed" := by
  obtain ⟨o, ho, hc, _⟩ := x
  exact ⟨o, ho, hc⟩
theorem made_new {t : Addr} {its : Array Value} {Q₁ : Value → Shared → Prop} (ht : IsTup s.heap t its) (hz : its.size ≤ sizeLine)
    (q : ∀ tk, Q₁ (.ref s.heap.objs.size) { s with heap := s.heap.push (revT t ((its.size : Int) - 1)), toks := tk }) :
    codeAny (model prog w) A (.call (.builtin "reversed.__new__") ⟨[.type "reversed", .ref t], []⟩) (wants Q₁ E) s := by
  refine codeAny_of_tree ?_
  show wpAny _ A.in1 (checkBuiltinCall "reversed.__new__" ⟨[.type "reversed", .ref t], []⟩ >>= fun _ => again (.builtin "reversed.__new__" ⟨[.type "reversed", .ref t], []⟩)) _ _ s
  refine wpAny_bind (wpAny_of_eq (F.newCall_reversed_1 _) (wpAny_pure ⟨plainId_quiet F.plain_reversed_new _, codeAny_builtin F.entry_reversed_new ?_⟩))
  rw [Around.under_plainId F.plain_reversed_new _]
  unfold Builtin.«reversed.__new__»
  refine wpAny_bind (wpAny_of_eq (newClass_reversed _) ?_)
  try dsimp only
  refine wpAny_bind (wpAny_of_eq (a := ()) (by first | rfl | kernel_rfl) ?_)
  refine wpAny_bind (wpAny_of_eq (a := ()) (by first | rfl | kernel_rfl) ?_)
  try dsimp only
  refine wpAny_bind (wpAny_specialOf ht.typeIs no_rev ?_)
  try dsimp only
  refine wpAny_bind (wpAny_bind (wpAny_isInstance ht.typeIs tup_dict ?_))
  rw [if_neg Bool.false_ne_true]
  refine wpAny_bind (wpAny_specialOf ht.typeIs slot_tuple_getitem.lookup ?_)
  show wpAny _ _ (if (["tuple.__getitem__", "str.__getitem__", "bytes.__getitem__", "bytearray.__getitem__", "memoryview.__getitem__", "numpy.ndarray.__getitem__", "sqlite3.Row.__getitem__"].contains "tuple.__getitem__") = true then pure true else _) _ _ s
  rw [if_pos (by decide +kernel)]
  refine wpAny_pure ?_
  rw [if_neg (by decide)]
  have hfit : (its.size : Int) < 2 ^ 63 := by have : sizeLine = 16777216 := sizeLine_eq; omega
  refine wpAny_bind (len_tuple ht hfit ?_)
  refine wpAny_bind (wpAny_of_eq (a := some (its.size : Int)) rfl ?_)
  show wpAny _ _ (newObj (Value.type "reversed") (.fields #[Value.ref t, rawInt ((its.size : Int) - 1)]) >>= _) _ _ _
  refine wpAny_bind (wpAny_newObj_type (wpAny_pure ?_))
  exact q _
theorem call_rev {t : Addr} {its : Array Value} {Q : Value → Shared → Prop} (ht : IsTup s.heap t its) (hz : its.size ≤ sizeLine)
    (q : ∀ tk, Q (.ref s.heap.objs.size) { s with heap := s.heap.push (revT t ((its.size : Int) - 1)), toks := tk }) : wpAny (model prog w) A (call (.type "reversed") [.ref t]) Q E s := by
  refine callType_codes (Q₁ := fun obj s₁ => s₁.TypeIs obj "reversed" ∧ Q obj s₁) rv_called (F.typeCall_reversed_1 _) F.entry_object_init (made_new ht hz fun tk => ⟨⟨_, Heap.get?_push_size _ rfl, rfl⟩, q tk⟩) fun obj s₁ h₁ => ?_
  exact ⟨h₁.1, F.args_object_init_2 obj _, object_init_meets rv_called.init.lookup rv_called.made (by decide) prog w A.in1 _ s₁ ⟨h₁.1, rfl, h₁.2⟩⟩
theorem next_item {it t : Addr} {i : Nat} {its : Array Value} {x : Value} {Q : Option Value → Shared → Prop} (hit : IsRevT s.heap it t (i : Int)) (ht : IsTup s.heap t its) (hx : its[i]? = some x) (hz : its.size ≤ sizeLine)
    (q : ∀ h' tk, IsRevT h' it t ((i : Int) - 1) → Heap.SameBut it s.heap h' → Q (some x) { s with heap := h', toks := tk }) : wpAny (model prog w) A (pyNext (.ref it)) Q E s := by
  obtain ⟨o, ho, hc, hd⟩ := id hit
  have hi : i < its.size := by
    obtain ⟨z, _⟩ := Array.getElem?_eq_some_iff.mp hx
    exact z
  have hsl : sizeLine = 16777216 := sizeLine_eq
  have hneg : ¬ ((i : Int) < 0) := by omega
  have hseq : seqIndex? (i : Int) its.size = some i := by simp [seqIndex?, hneg, hi]
  unfold pyNext
  refine wpAny_bind (wpAny_attempt (wpAny_callSpecial?_slot (name := Str.ofString "__next__") hit.ty rv_next (wpAny_call_entry rv_next hit.ty en_next ?_ (ar_next _))))
  unfold Builtin.«reversed.__next__»
  refine wpAny_bind (wpAny_of_eq (a := (Value.ref it, [])) rfl ?_)
  try dsimp only
  refine wpAny_bind (wpAny_field ho hd (x := .ref t) rfl ?_)
  refine wpAny_bind (wpAny_field ho hd (x := rawInt (i : Int)) rfl ?_)
  show wpAny _ _ (if (i : Int) < 0 then _ else _) _ _ s
  rw [if_neg (by omega)]
  refine wpAny_bind (wpAny_specialOf ht.typeIs slot_tuple_getitem.lookup ?_)
  rw [if_neg (by simp)]
  refine wpAny_bind (wpAny_mkInt ?_)
  refine wpAny_bind (wpAny_attempt (getItem_tuple (s := { s with toks := s.toks + 1 }) ht (by omega) (by omega) hseq hx ?_))
  show wpAny _ _ (field (Value.ref it) 1 >>= _) _ _ _
  refine wpAny_bind (wpAny_field (s := { s with toks := s.toks + 1 }) ho hd (x := rawInt (i : Int)) rfl ?_)
  show wpAny _ _ (setField (Value.ref it) 1 (rawInt ((i : Int) - 1)) >>= _) _ _ _
  refine wpAny_bind (wpAny_setField (s := { s with toks := s.toks + 1 }) ho hd (by simp) ?_)
  refine wpAny_pure ⟨x, rfl, wpAny_pure (q _ _ ?_ (Heap.SameBut.update ..))⟩
  exact ⟨_, Heap.get?_update_self _ ho (Obj.isFreed_of_fields (Obj.data_mapFields hd _)), (Obj.cls_mapFields ..).trans hc, by
    rw [Obj.data_mapFields hd]
    simp⟩
theorem next_end {it t : Addr} {Q : Option Value → Shared → Prop} (hh : A.handled = none) (hit : IsRevT s.heap it t (-1))
    (q : ∀ h' tk, Heap.ExtBut it s.heap h' → Q none { s with heap := h', toks := tk }) : wpAny (model prog w) A (pyNext (.ref it)) Q E s := by
  obtain ⟨o, ho, hc, hd⟩ := id hit
  unfold pyNext
  refine wpAny_bind (wpAny_attempt (wpAny_callSpecial?_slot (name := Str.ofString "__next__") hit.ty rv_next (wpAny_call_entry rv_next hit.ty en_next ?_ (ar_next _))))
  unfold Builtin.«reversed.__next__»
  refine wpAny_bind (wpAny_of_eq (a := (Value.ref it, [])) rfl ?_)
  try dsimp only
  refine wpAny_bind (wpAny_field ho hd (x := .ref t) rfl ?_)
  refine wpAny_bind (wpAny_field ho hd (x := rawInt (-1)) rfl ?_)
  show wpAny _ _ (if (-1 : Int) < 0 then _ else _) _ _ s
  rw [if_pos (by decide)]
  refine wpAny_bind (wpAny_rule ?_)
  refine wpAny_bind (wpAny_bind (wpAny_setField ho hd (by simp) ?_))
  have h1 := Heap.get?_update_self (Obj.mapFields (·.setIfInBounds 1 (rawInt (-1)))) ho (Obj.isFreed_of_fields (Obj.data_mapFields hd _))
  refine wpAny_setField h1 (Obj.data_mapFields hd _) (by simp) ?_
  refine wpAny_bind ?_
  show wpAny _ _ (newExc (Value.type "StopIteration") [] >>= _) _ _ _
  refine wpAny_bind ?_
  simp only [newTuple, newExc]
  refine wpAny_bind (wpAny_newObj_type (wpAny_bind (m := firstArgMember _ _) (wpAny_of_eq (a := Value.none) (by first | rfl | (simp only [firstArgMember]; rfl)) (wpAny_newObj_type ?_ (by size_fits)))) (by size_fits))
  simp only [raiseNew]
  refine wpAny_bind (wpAny_handled ?_)
  rw [show A.in1.handled = none from hh]
  refine wpAny_bind (wpAny_pure (wpAny_throw ?_))
  exact wpAny_bind (wpAny_isInstance (T := "StopIteration") (b := true) ⟨_, Heap.get?_push_size _ rfl, rfl⟩ isSubtype_stop (wpAny_pure (q _ _ ((((Heap.SameBut.update ..).trans (Heap.SameBut.update ..)).extBut.push _).push _))))
theorem iter_self {it t : Addr} {i : Int} {Q : Value → Shared → Prop} (hit : IsRevT s.heap it t i) (h : Q (.ref it) s) : wpAny (model prog w) A (pyIter (.ref it)) Q E s := by
  refine wpAny_pyIter_slot hit.ty rv_iter (wpAny_call_entry rv_iter hit.ty en_iter ?_ (ar_iter _))
  show wpAny _ _ (ret (.ref it)) _ _ s
  exact wpAny_pure ⟨_, rfl, "reversed", _, hit.ty, rv_next.lookup, h⟩
end
end RV
set_option Elab.async false
set_option linter.all false
set_option maxRecDepth 100000
set_option maxHeartbeats 16000000
namespace RV
open PySem PySem.Spec PyProof.Rows
section
variable {prog : Program} {w : World} {A : Around} {E : Value → Shared → Prop} {s : Shared}
end
end RV
set_option Elab.async false
set_option linter.all false
set_option maxRecDepth 100000
set_option maxHeartbeats 16000000
namespace RV
open PySem PySem.Spec PyProof.Rows
section
variable {prog : Program} {w : World} {A : Around} {E : Value → Shared → Prop} {s : Shared}
end
end RV
set_option Elab.async false
set_option linter.all false
set_option maxRecDepth 100000
set_option maxHeartbeats 16000000
namespace L2
open PySem PySem.Spec PyProof.Rows PySem.W RV
section
variable {X : Cx} {e : Expr} {te : TE} {pos pos2 p p2 : Pos}
theorem ev_rev (he : PE X e te) (gR : Gl X "reversed") (mR : X.mg "reversed" = none) (hs : starEach [e] X.env = [(false, eval e X.env)] := by rfl)
    {pins : List (Addr × Obj)} {s : Shared} {σ : St} {H : Hp} {R : VK} {Q : Value → Shared → Prop} (I : Inv X pins σ H s) (h : te σ H R)
    (k : ∀ x H1 s1 a xs its tk, Inv X pins σ H1 s1 → R x H1 → x = .ref a → Vals xs its → IsTup s1.heap a its.toArray → its.toArray.size ≤ sizeLine → SqT X.K H1 a xs → Q (.ref s1.heap.objs.size) { s1 with heap := s1.heap.push (revT a ((its.toArray.size : Int) - 1)), toks := tk })
    (kr : ∀ x H1, R x H1 → ∃ a xs, x = .ref a ∧ SqT X.K H1 a xs) :
    wpAny (model X.prog X.w) X.A (eval (.Call (.Name "reversed" p2) [e] [] pos2) X.env) Q X.xe s := by
  refine wpAny_Call_Name_kw (ld_blt I gR mR boot_reversed ?_ (by decide) (by decide))
  refine PyProof.Rows.callWith_type1 ?_ hs (by rfl)
  rw [hs]
  refine Calls.spliced_cons (thn (he pins s σ H _ I h) fun u s1 ⟨x, H1, I1, r1, q1⟩ => ?_)
  obtain ⟨a, xs, rfl, ht⟩ := kr x H1 q1
  cases r1
  obtain ⟨its, hv, htup, hz⟩ := I1.tuple ht
  have hz' : its.toArray.size ≤ sizeLine := by have := hv.length; simp; omega
  refine Calls.spliced_nil ?_
  exact call_rev htup hz' fun tk => k _ H1 s1 a xs its tk I1 q1 rfl hv htup hz' ht
end
end L2
set_option Elab.async false
set_option linter.all false
set_option maxRecDepth 100000
set_option maxHeartbeats 16000000
namespace L2
open PySem PySem.Spec PyProof.Rows
section
variable {P : Program} {w : World} {A : Around} {E : Value → Shared → Prop} {s : Shared} {z TI TO i1 i2 l1 l2 : Addr} {xs ys : Array Value} {I1 I2 : Nat → Heap → Prop} {S1 S2 : Heap → Prop}
end
section
variable {X : Cx} {elts : List Expr} {k : Nat} {tpos : Pos}
end
end L2
set_option Elab.async false
set_option linter.all false
set_option maxRecDepth 100000
set_option maxHeartbeats 16000000
namespace L2
open PySem PySem.Spec PyProof.Rows PySem.W
noncomputable def RawAt (h : Heap) (d : Addr) (es : Array DictEntry) (ep : Nat) : Prop := ∃ o, h.get? d = some o ∧ o.ExactDict ∧ o.data = .dict es ep
section
variable {P : Program} {w : World} {A : Around} {E : Value → Shared → Prop} {s : Shared} {d : Addr} {es : Array DictEntry} {ep : Nat}
theorem RawAt.ty (r : RawAt s.heap d es ep) : s.TypeIs (.ref d) "dict" := by
  obtain ⟨ob, e, c, _⟩ := r
  exact ⟨ob, e, c.1⟩
theorem raw_iter {Q : Value → Shared → Prop} (lo : (d == sysModules) = false) (r : RawAt s.heap d es ep)
    (q : Q (.ref s.heap.objs.size) { s with heap := s.heap.push { cls := .type "dict_keyiterator", data := .fields #[.ref d, .int 0 0, .int es.size 0, .int ep 0] } }) : wpAny (model P w) A (pyIter (.ref d)) Q E s := by
  have ty := r.ty
  obtain ⟨ob, eb, cb, db⟩ := r
  refine wpAny_pyIter_slot ty F.slot_dict_iter (wpAny_call_entry F.slot_dict_iter ty F.entry_dict_iter ?_ (F.args_dict_iter_1 _))
  unfold Builtin.«dict.__iter__» Builtin.Dict.dictSlotNone
  refine wpAny_bind (wpAny_bind (wpAny_notOrdered_dict ty ?_))
  show wpAny _ _ (pure (Value.ref d)) _ _ s
  refine wpAny_pure ?_
  show wpAny _ _ (Builtin.Dict.showsAll d >>= _) _ _ s
  unfold Builtin.Dict.showsAll
  rw [if_neg (fun z => by rw [lo] at z; exact Bool.false_ne_true z)]
  refine wpAny_bind (wpAny_pure (wpAny_bind (wpAny_dictEntries eb db (wpAny_bind (wpAny_dictEpoch eb db ?_)))))
  refine wpAny_bind (wpAny_newObj_type (wpAny_pure ⟨_, rfl, "dict_keyiterator", _, ⟨_, Heap.get?_push_size _ rfl, rfl⟩, F.slot_dict_keyiterator_next.lookup, ?_⟩))
  simpa [rawInt] using q
theorem raw_item {it : Addr} {i : Nat} {e : DictEntry} {Q : Option Value → Shared → Prop} (hi : s.heap.IsKeyIter it d i es.size ep) (r : RawAt s.heap d es ep) (he : es[i]? = some e)
    (q : ∀ h', h'.IsKeyIter it d (i + 1) es.size ep → Heap.SameBut it s.heap h' → Q (some e.key) { s with heap := h' }) : wpAny (model P w) A (pyNext (.ref it)) Q E s := by
  obtain ⟨oi, ei, ci, di⟩ := id hi
  obtain ⟨ob, eb, cb, db⟩ := r
  unfold pyNext
  refine wpAny_bind (wpAny_attempt (wpAny_callSpecial?_slot (name := Str.ofString "__next__") hi.typeIs F.slot_dict_keyiterator_next (wpAny_call_entry F.slot_dict_keyiterator_next hi.typeIs F.entry_dict_keyiterator_next ?_ (F.args_dict_keyiterator_next_1 _))))
  refine wpAny_bind (wpAny_pure (wpAny_bind (wpAny_bind ?_)))
  first | refine wpAny_bind (wpAny_typeNameOfWhole_keyiter hi.typeIs (wpAny_pure (wpAny_bind (wpAny_fieldsOf ei di ?_)))) | refine wpAny_bind (wpAny_typeNameOf_keyiter hi.typeIs (wpAny_pure (wpAny_bind (wpAny_fieldsOf ei di ?_))))
  simp only [show Builtin.Dict_items.ownsTuple "dict_keyiterator" = false by decide, Bool.false_eq_true, if_false]
  show wpAny _ _ (ite ((Value.ref d == Value.none) = true) _ _) _ _ s
  rw [if_neg (by exact Bool.false_ne_true)]
  refine wpAny_bind (wpAny_pure (wpAny_bind (wpAny_dictEntries eb db ?_)))
  rw [if_neg (by simp)]
  refine wpAny_bind (wpAny_pure (wpAny_bind (wpAny_dictEpoch eb db ?_)))
  rw [if_neg (by simp)]
  refine wpAny_pure ?_
  simp only [show ¬ ((i : Int) < 0) from by omega, if_false, Int.toNat_natCast, he]
  refine wpAny_bind ?_
  first | refine wpAny_bind (wpAny_typeNameOfWhole_keyiter hi.typeIs (wpAny_pure (wpAny_bind (wpAny_isOneOf_keyiter hi.typeIs ?_)))) | refine wpAny_bind (wpAny_typeNameOf_keyiter hi.typeIs (wpAny_pure (wpAny_bind (wpAny_isOneOf_keyiter hi.typeIs ?_))))
  show wpAny _ _ (setField (Value.ref it) 1 (rawInt ((i : Int) + 1)) >>= _) _ _ s
  refine wpAny_bind (wpAny_setField ei di (by simp) ?_)
  have hi2 : (s.heap.update it (Obj.mapFields (·.setIfInBounds 1 (rawInt ((i : Int) + 1))))).IsKeyIter it d (i + 1) es.size ep := ⟨_, Heap.get?_update_self _ ei (Obj.isFreed_of_fields (Obj.data_mapFields di _)), (Obj.cls_mapFields ..).trans ci, by
    rw [Obj.data_mapFields di]
    simp [rawInt]⟩
  refine wpAny_bind (wpAny_holding (wpAny_bind (wpAny_isOneOf_keyiter (s := { s with heap := s.heap.update it (Obj.mapFields (·.setIfInBounds 1 (rawInt ((i : Int) + 1)))) }) hi2.typeIs ?_)))
  show wpAny _ _ (pure e.key) _ _ _
  exact wpAny_pure (wpAny_pure ⟨_, rfl, wpAny_pure (q _ hi2 (Heap.SameBut.update ..))⟩)
theorem raw_stop {it : Addr} {i : Nat} {Q : Option Value → Shared → Prop} (hA : A.handled = none) (hi : s.heap.IsKeyIter it d i es.size ep) (r : RawAt s.heap d es ep) (he : es[i]? = none)
    (q : ∀ h', Heap.ExtBut it s.heap h' → Q none { s with heap := h' }) : wpAny (model P w) A (pyNext (.ref it)) Q E s := by
  obtain ⟨oi, ei, ci, di⟩ := id hi
  obtain ⟨ob, eb, cb, db⟩ := r
  unfold pyNext
  refine wpAny_bind (wpAny_attempt (wpAny_callSpecial?_slot (name := Str.ofString "__next__") hi.typeIs F.slot_dict_keyiterator_next (wpAny_call_entry F.slot_dict_keyiterator_next hi.typeIs F.entry_dict_keyiterator_next ?_ (F.args_dict_keyiterator_next_1 _))))
  refine wpAny_bind (wpAny_pure (wpAny_bind (wpAny_bind ?_)))
  first | refine wpAny_bind (wpAny_typeNameOfWhole_keyiter hi.typeIs (wpAny_pure (wpAny_bind (wpAny_fieldsOf ei di ?_)))) | refine wpAny_bind (wpAny_typeNameOf_keyiter hi.typeIs (wpAny_pure (wpAny_bind (wpAny_fieldsOf ei di ?_))))
  simp only [show Builtin.Dict_items.ownsTuple "dict_keyiterator" = false by decide, Bool.false_eq_true, if_false]
  show wpAny _ _ (ite ((Value.ref d == Value.none) = true) _ _) _ _ s
  rw [if_neg (by exact Bool.false_ne_true)]
  refine wpAny_bind (wpAny_pure (wpAny_bind (wpAny_dictEntries eb db ?_)))
  rw [if_neg (by simp)]
  refine wpAny_bind (wpAny_pure (wpAny_bind (wpAny_dictEpoch eb db ?_)))
  rw [if_neg (by simp)]
  refine wpAny_pure ?_
  simp only [show ¬ ((i : Int) < 0) from by omega, if_false, Int.toNat_natCast, he]
  refine wpAny_bind ?_
  first | refine wpAny_bind (wpAny_typeNameOfWhole_keyiter hi.typeIs (wpAny_pure ?_)) | refine wpAny_bind (wpAny_typeNameOf_keyiter hi.typeIs (wpAny_pure ?_))
  show wpAny _ _ (setField (Value.ref it) 0 .none >>= _) _ _ s
  refine wpAny_bind (wpAny_setField ei di (by simp) ?_)
  show wpAny _ _ (newExc (Value.type "StopIteration") [] >>= _) _ _ _
  refine wpAny_bind ?_
  simp only [newTuple, newExc]
  refine wpAny_bind (wpAny_newObj_type (wpAny_bind (m := firstArgMember _ _) (wpAny_of_eq (a := Value.none) (by first | rfl | (simp only [firstArgMember]; rfl)) (wpAny_newObj_type ?_ (by size_fits)))) (by size_fits))
  simp only [raiseNew]
  refine wpAny_bind (wpAny_handled ?_)
  rw [show A.in1.handled = none from hA]
  refine wpAny_bind (wpAny_pure (wpAny_throw ?_))
  exact wpAny_bind (wpAny_isInstance (T := "StopIteration") (b := true) ⟨_, Heap.get?_push_size _ rfl, rfl⟩ isSubtype_stop (wpAny_pure (q _ (((Heap.SameBut.update ..).extBut.push _).push _))))
end
noncomputable def KeyAt (H : Hp) (v : V) (kv : List Key × V) : Prop := ∃ b, v = .ref b ∧ H b = some (.tup (kv.1.map kV))
section
variable {X : Cx}
end
end L2
set_option Elab.async false
set_option linter.all false
set_option maxRecDepth 100000
set_option maxHeartbeats 16000000
namespace L2
open PySem PySem.Spec PyProof.Rows
section
variable {X : Cx}
end
end L2
set_option Elab.async false
set_option linter.all false
set_option maxRecDepth 100000
set_option maxHeartbeats 16000000
namespace RG
open PySem PySem.Spec PyProof.Rows
section
variable {prog : Program} {w : World} {A : Around} {E : Value → Shared → Prop} {s : Shared}
variable {I : Addr} {fp : List Addr} {n : Nat} {P : Nat → Value → Prop} {St : Nat → Heap → Prop} {T : String}
end
end RG
set_option Elab.async false
set_option linter.all false
set_option maxRecDepth 100000
set_option maxHeartbeats 16000000
namespace RG
open PySem PySem.Spec PyProof.Rows
section
variable {prog : Program} {w : World} {A : Around} {E : Value → Shared → Prop} {s : Shared}
end
end RG
namespace L2
open PySem PySem.Spec PyProof.Rows PySem.W RG
section
variable {X : Cx} {e : Expr} {te : TE} {pos pos2 pos3 p p2 p3 : Pos}
end
end L2
set_option Elab.async false
set_option linter.all false
set_option maxRecDepth 100000
set_option maxHeartbeats 16000000
namespace L2
open PySem PySem.Spec PyProof.Rows PySem.W
section
variable {X : Cx} {pins : List (Addr × Obj)} {σ : List (Option V)} {H : Hp} {s : Shared}
theorem Inv.freeze {d : Addr} {o : Obj} {u : HO} (I : Inv X pins σ H s) (h : H d = some u) (n1 : ∀ xs, u ≠ .tup xs) (n2 : ∀ o' u', u ≠ .frz o' u') (n3 : ∀ ps, u ≠ .tbl ps) (n4 : ∀ a, u ≠ .own a) (ho : s.heap.get? d = some o) : Inv X pins σ (upd H d (.frz o u)) s := by
  have ne : ∀ {b : Addr} {v : HO}, H b = some v → v ≠ u → b ≠ d := fun {b v} e hv z => by
    rw [z, h] at e
    exact hv (Option.some.inj e).symm
  have kt : ∀ (b : Addr) (xs : List V), H b = some (.tup xs) → upd H d (.frz o u) b = some (.tup xs) := fun b xs e => by
    rw [upd_ne (ne e fun z => n1 xs z.symm)]
    exact e
  have ko : ∀ (a b : Addr), H b = some (.own a) → upd H d (.frz o u) b = some (.own a) := fun a b e => by
    rw [upd_ne (ne e fun z => n4 a z.symm)]
    exact e
  refine I.step (h' := s.heap) (g' := s.gens) (d' := s.drawn) (t' := s.toks) (ch := []) (fun _ z => nomatch z) (fun b ob _ _ _ e _ => e) (fun b ob _ _ _ e _ => ⟨ob.slots, e⟩)
    (fun b ob _ _ n => by rw [upd_ne (fun z => by rw [z, h] at n; cases n)]; exact n) (fun b ob _ e => ⟨ob, e⟩) kt
    (fun b ob v e => by rw [upd_ne (ne e fun z => n2 ob v z.symm)]; exact e) (fun b ps e => ⟨#[], by rw [upd_ne (ne e fun z => n3 ps z.symm), e]; simp⟩) (fun m hm => hm) (fun b v e => ?_) I.bare
  by_cases hb : b = d
  · subst hb
    rw [upd_same] at e
    cases e
    exact ⟨ho, (I.hok b u h).stay (fun c w _ q => q) (fun c q => ko b c q) kt⟩
  · rw [upd_ne hb] at e
    exact (I.hok b v e).stay (fun c w _ q => q) (fun c q => ko b c q) kt
end
noncomputable def ItD (d : Addr) (o : Obj) (u : HO) (ks : List V) : It := ⟨fun i H => H d = some (.frz o u) ∧ i < ks.length, fun i H x H' => H' = H ∧ ks[i]? = some x, fun i H => H d = some (.frz o u) ∧ ks.length ≤ i⟩
theorem turn_dict {P : Program} {w : World} {K : PySem.W.Frag} {tg : Expr} {d it : Addr} {o : Obj} {u : HO} {ks : List V} {es : Array DictEntry} {ep : Nat} (hx : o.ExactDict) (hd : o.data = .dict es ep) (hl : ks.length = es.size) (hk : ∀ (i : Nat) (k : V), ks[i]? = some k → ∃ e : DictEntry, es[i]? = some e ∧ RelV k e.key) :
    Turn P w K tg (ItD d o u ks) [it] it (fun i h => h.IsKeyIter it d i es.size ep) where
  mem := by simp
  obj := fun i h st b hb => by
    have z : b = it := by simpa using hb
    subst z
    obtain ⟨oi, ei, ci, di⟩ := st
    exact ⟨oi, ei, fun v y => by rw [di] at y; cases y⟩
  keep := fun i h h' st kp => st.at fun ob e => kp it (by simp) ob e
  item := by
    intro X hP hw hK hc i pins s σ H E I hf st hg
    subst hP hw hK
    obtain ⟨hfz, hi⟩ := hg
    have hod : s.heap.get? d = some o := (show ObjOk X.prog X.w H s.heap d (.frz o u) from I.hok d _ hfz).1
    obtain ⟨k, hki⟩ : ∃ k, ks[i]? = some k := ⟨ks[i], by simp [hi]⟩
    obtain ⟨e, he, hr⟩ := hk i k hki
    obtain ⟨f0, f1, f2, f3, f4, f5⟩ := hf it (by simp)
    refine raw_item st ⟨o, hod, hx, hd⟩ he fun h' st' sb => ?_
    have I1 : Inv X pins σ H { s with heap := h' } := I.turned (t' := s.toks) (fun b ob hb e => (sb.2 b hb).trans e) f0 f1 f3 f4 f5
    obtain ⟨oi, ei, ci, di⟩ := id st'
    exact ⟨e.key, rfl, go_of (s := { s with heap := h' }) ei ci di (by decide) ⟨k, H, I1, hr, ⟨rfl, hki⟩, st', fun b hb => (hf b hb).1⟩⟩
  done := by
    intro X hP hw hK hc i pins s σ H E I hf st hg
    subst hP hw hK
    obtain ⟨hfz, hi⟩ := hg
    have hod : s.heap.get? d = some o := (show ObjOk X.prog X.w H s.heap d (.frz o u) from I.hok d _ hfz).1
    obtain ⟨f0, f1, f2, f3, f4, f5⟩ := hf it (by simp)
    exact raw_stop (I.ok.hd hc) st ⟨o, hod, hx, hd⟩ (by simp; omega) fun h' eb => ⟨rfl, I.turned (t' := s.toks) (fun b ob hb e => eb b ob hb e) f0 f1 f3 f4 f5⟩
  self := fun _ _ _ _ _ st h => wpAny_pyIter_keyiter st h
section
variable {X : Cx} {tg : Expr}
theorem keys_rawT {H : Hp} {h : Heap} {d : Addr} {kvs : List (List Key × V)} (ok : ObjOk X.prog X.w H h d (.dT kvs)) : ∃ (o : Obj) (es : Array DictEntry) (ep : Nat) (vs : List V), h.get? d = some o ∧ o.ExactDict ∧ o.data = .dict es ep ∧ (d == sysModules) = false ∧ Paired (KeyAt H) vs kvs ∧ vs.length = es.size ∧ ∀ (i : Nat) (k : V), vs[i]? = some k → ∃ e : DictEntry, es[i]? = some e ∧ RelV k e.key := by
  obtain ⟨z, lo, xs, rel, o, es, ep, h1, h2, h3, h4, h5⟩ := ok
  have rel' : KT H kvs xs := rel
  have l1 : kvs.length = xs.length := Paired.length rel
  have l2 : es.size = xs.length := by rw [← Array.length_toList, h4, List.length_map]
  have hget : ∀ i, es[i]? = (xs[i]?).map (entryOfKey (tupleKind (mixKind X.prog X.w))) := fun i => by
    rw [← Array.getElem?_toList, h4, List.getElem?_map]
  refine ⟨o, es, ep, xs.map fun x => V.ref x.2.1, h1, h2, h3, lo, ?_, by rw [List.length_map, l2], fun i k e => ?_⟩
  · have : ∀ {kvs : List (List Key × V)} {xs : List (List Key × Addr × Value)}, KT H kvs xs → Paired (KeyAt H) (xs.map fun x => V.ref x.2.1) kvs := by
      intro kvs xs r
      induction r with
      | nil => exact .nil
      | cons a _ ih => exact .cons ⟨_, rfl, a.2.1⟩ ih
    exact this rel'
  · rw [List.getElem?_map] at e
    cases hx : xs[i]? with
    | none => rw [hx] at e; cases e
    | some x =>
      rw [hx] at e
      have ek : V.ref x.2.1 = k := Option.some.inj e
      refine ⟨entryOfKey (tupleKind (mixKind X.prog X.w)) x, by rw [hget, hx]; rfl, ?_⟩
      rw [← ek]
      rfl
noncomputable def iDictT (te : TE) : TI := fun σ H R => te σ H fun x H1 => ∃ d kvs, x = .ref d ∧ H1 d = some (.dT kvs) ∧ ∀ o vs, Paired (KeyAt H1) vs kvs → R (ItD d o (.dT kvs) vs) (upd H1 d (.frz o (.dT kvs)))
theorem pi_dictT {l : Expr} {tl : TE} (hl : PE X l tl) : PI X tg l (iDictT tl) := by
  intro pins s σ H R I h
  refine thn (hl pins s σ H _ I h) fun v s1 ⟨x, H1, I1, r1, q1⟩ => ?_
  obtain ⟨d, kvs, e, hd, q⟩ := q1
  subst e
  cases r1
  obtain ⟨o, es, ep, vs, h1, h2, h3, lo, hp, hlen, hks⟩ := keys_rawT (X := X) (I1.hok d _ hd)
  have I2 := I1.freeze hd (fun _ z => nomatch z) (fun _ _ z => nomatch z) (fun _ z => nomatch z) (fun _ z => nomatch z) h1
  refine raw_iter lo ⟨o, h1, h2, h3⟩ ?_
  refine ⟨s1.heap.objs.size, [s1.heap.objs.size], _, _, _, rfl, I2.kept (t' := s1.toks) fun b ob e => Heap.get?_push_of_some _ e, turn_dict h2 h3 hlen hks, ⟨_, Heap.get?_push_size _ rfl, rfl, rfl⟩, fun b hb => ?_, q o vs hp⟩
  have z : b = s1.heap.objs.size := by simpa using hb
  subst z
  exact I2.fpOk (Nat.le_refl _) (I2.hok.fresh (Nat.le_refl _))
end
theorem for_dict {d : Addr} {o : Obj} {u : HO} {ks : List V} {g : TG} {tb : TS} {D : Ends} {σ : St} {H : Hp} (Pv : Nat → St → Hp → Prop) (h0 : Pv 0 σ H) (hl : ∀ i σ H, i ≤ ks.length → Pv i σ H → H d = some (.frz o u)) (hs : ∀ (i : Nat) (k : V) σ H, ks[i]? = some k → Pv i σ H → g k σ H fun σ2 H2 => tb { D with nx := Pv (i + 1), ct := Pv (i + 1), bk := D.nx } σ2 H2) (hd : ∀ σ H, Pv ks.length σ H → D.nx σ H) :
    ∃ W : Nat → Nat → St → Hp → Prop, (∃ m, W 0 m σ H) ∧ ∀ i m σ H, W i m σ H →
      ((ItD d o u ks).stop i H ∧ D.nx σ H) ∨ ((ItD d o u ks).go i H ∧ ∃ N : St → Hp → Prop, (∀ σ' H', N σ' H' → ∃ m', m' < m ∧ W (i + 1) m' σ' H') ∧ ∀ y H', (ItD d o u ks).yld i H y H' → g y σ H' fun σ2 H2 => tb { D with nx := N, ct := N, bk := D.nx } σ2 H2) := by
  refine ⟨fun i m σ H => m = ks.length - i ∧ i ≤ ks.length ∧ Pv i σ H, ⟨_, rfl, Nat.zero_le _, h0⟩, ?_⟩
  rintro i m σ H ⟨rfl, hi, p⟩
  have q := hl i σ H hi p
  by_cases hlt : i < ks.length
  · refine .inr ⟨⟨q, hlt⟩, Pv (i + 1), fun σ' H' p' => ⟨ks.length - (i + 1), by omega, rfl, hlt, p'⟩, ?_⟩
    rintro y H' ⟨rfl, hy⟩
    exact hs i y σ _ hy p
  · have e : i = ks.length := by omega
    subst e
    exact .inl ⟨⟨q, Nat.le_refl _⟩, hd σ H p⟩
end L2
set_option Elab.async false
set_option linter.all false
set_option maxRecDepth 100000
set_option maxHeartbeats 16000000
namespace L2
open PySem PySem.Spec PyProof.Rows
section
variable {X : Cx}
end
end L2
set_option Elab.async false
set_option linter.all false
set_option maxRecDepth 100000
set_option maxHeartbeats 16000000
namespace L2
open PySem PySem.Spec PyProof.Rows
noncomputable def slP (x : Str) (lo hi : Option Int) : Str := if (Builtin.Str.strSliceIndices lo hi 1 x.length).length = x.length then x else ⟨((Builtin.Str.strSliceIndices lo hi 1 x.length).filterMap (x.cps[·]?)).toArray⟩
section
variable {X : Cx}
theorem sl_strG : SlR X (fun x lo hi H Q => ∃ y : Str, x = .str y ∧ y.length ≤ 1000 ∧ Q (.str (slP y lo hi)) H) := by
  intro pins s σ H x v vl vu lo hi sl Q I rx hs pl pu h
  obtain ⟨y, rfl, hy, q⟩ := h
  obtain ⟨t, rfl⟩ := rx
  have hsl : sizeLine = 16777216 := sizeLine_eq
  refine ⟨"str", _, PySem.F.slot_str_getitem.lookup, typeIs_str _ _ _, ?_⟩
  have key : ∀ (l u : Option (Int × Tok)), l.map (·.1) = lo → u.map (·.1) = hi → s.heap.IsSlice sl l u none → wpAny (model X.prog X.w) X.A (getItem (.str y t) (.ref sl)) (EP X pins σ Q) X.xe s := fun l u el eu hs => by
    refine wpAny_getItem_str_slice (l := l) (u := u) (st := none) hs rfl ?_
    have hp : slicePicked y l u none = Builtin.Str.strSliceIndices lo hi 1 y.length := by
      unfold slicePicked
      rw [el, eu]
      rfl
    unfold sliceMade
    rw [hp]
    have hle := indices_len_le lo hi y.length
    unfold slP at q
    by_cases hw : (Builtin.Str.strSliceIndices lo hi 1 y.length).length = y.length
    · rw [if_pos hw] at q
      rw [if_pos (by simp [hw])]
      exact ⟨.str y, H, I, ⟨_, rfl⟩, q⟩
    · rw [if_neg hw] at q
      rw [if_neg (by simp [hw])]
      refine ⟨?_, .str _, H, I.tok _, ⟨_, rfl⟩, q⟩
      show (((Builtin.Str.strSliceIndices lo hi 1 y.length).filterMap (y.cps[·]?)).toArray).size ≤ sizeLine
      have := List.length_filterMap_le (y.cps[·]?) (Builtin.Str.strSliceIndices lo hi 1 y.length)
      simp only [List.size_toArray]
      omega
  cases pl <;> cases pu
  · exact key none none rfl rfl hs
  · exact key none (some (_, _)) rfl rfl hs
  · exact key (some (_, _)) none rfl rfl hs
  · exact key (some (_, _)) (some (_, _)) rfl rfl hs
end
end L2
set_option Elab.async false
set_option linter.all false
set_option maxRecDepth 100000
set_option maxHeartbeats 16000000
namespace L2
open PySem PySem.Spec PyProof.Rows
noncomputable def HasM (K : PySem.W.Frag) (C : Addr) (m qual : Str) (st : Stmt) : Prop := ∃ f fd, Fun K m qual st f fd ∧ Meth K C m f
noncomputable def HasI (K : PySem.W.Frag) (C : Addr) (qual : Str) (st : Stmt) : Prop := ∃ f fd, Fun K "__init__" qual st f fd ∧ Mk K C f
theorem hasM_mk {K : PySem.W.Frag} {C : Addr} {m qual : Str} {st : Stmt} {f : Addr} {oc : Value} {od an : Option Addr} {osl : Array (Option Value)} {kV doc pm cdv ct : Value}
    (a : PySem.W.findIn K (.ref C) m = some (some (.ref f))) (i : PySem.W.isFn K (.ref f) = true) (l : K.lookup f = some ⟨oc, od, .func (PySem.W.fnOf m qual (defArgs st) (defBody st) (defScope st) .none kV doc pm an cdv ct), osl⟩)
    (c : PySem.W.codeIn K cdv qual = true) (k : PySem.W.keepIn K (.ref f) = true) : HasM K C m qual st := ⟨f, _, fun_mk l c k, ⟨a, i, k⟩⟩
theorem hasI_mk {K : PySem.W.Frag} {C : Addr} {qual : Str} {st : Stmt} {f : Addr} {oc : Value} {od an : Option Addr} {osl : Array (Option Value)} {kV doc pm cdv ct : Value}
    (mk : PySem.W.makesIn K C = true) (a : PySem.W.findIn K (.ref C) "__init__" = some (some (.ref f))) (i : PySem.W.isFn K (.ref f) = true) (kc : PySem.W.keepIn K (.ref C) = true) (l : K.lookup f = some ⟨oc, od, .func (PySem.W.fnOf "__init__" qual (defArgs st) (defBody st) (defScope st) .none kV doc pm an cdv ct), osl⟩)
    (c : PySem.W.codeIn K cdv qual = true) (k : PySem.W.keepIn K (.ref f) = true) : HasI K C qual st := ⟨f, _, fun_mk l c k, ⟨mk, a, i, kc⟩⟩
structure MCl (P : Program) (w : World) (K : PySem.W.Frag) (mg : Str → Option Value) (base : Heap) (k : Nat) (C : Addr) (m : Str) (ps : List Str) (sp : Sp) : Prop where
  ex : ∃ f fd, FnOk P w K mg base CX0 k f fd ps sp ∧ Meth K C m f ∧ Binds K fd ps []
structure ICl (P : Program) (w : World) (K : PySem.W.Frag) (mg : Str → Option Value) (base : Heap) (k : Nat) (x : Str) (C : Addr) (ps : List Str) (sp : Sp) : Prop where
  ex : ∃ f fd, FnOk P w K mg base CX0 k f fd ps sp ∧ Mk K C f ∧ mg x = some (.ref C) ∧ Binds K fd ps []
section
variable {P : Program} {w : World} {K : PySem.W.Frag} {mg : Str → Option Value} {base : Heap}
theorem MCl.of {C : Addr} {m qual : Str} {st : Stmt} {N ps : List Str} {k : Nat} {sp : Sp} (T : HasM K C m qual st) (S : FnScope N ps (defScope st)) (len : ∀ vs H Q E, sp vs H Q E → vs.length = ps.length)
    (hb : ∀ (kV doc pm : Value) (an : Option Addr) (cdv ct : Value) (us : List Value), us.length = ps.length → bindArgs (PySem.W.fnOf m qual (defArgs st) (defBody st) (defScope st) .none kV doc pm an cdv ct) ⟨us, []⟩ = pure (ps.zip us))
    (hbody : ∀ (f : Addr) (cdv : Value) (A : Around) (outer : List Env) (s : Shared) (H : Hp) (vs : List V) (Q : VK) (E : XK), Room k (A.deeper (envOfC qual (defScope st) s.heap.objs.size f cdv)) → sp vs H Q E →
      ∃ t, PSs (cxOf CX0 P w K mg base N qual (defScope st) f cdv A outer s H E).nox (defBody st) t ∧ t { nx := fun _ H' => Q .non H', rt := Q } (start N vs) H) : MCl P w K mg base (k + 1) C m ps sp := by
  obtain ⟨f, fd, F, M⟩ := T
  exact ⟨f, fd, F.ok S len (fun cdv A outer s H vs Q E => hbody f cdv A outer s H vs Q E), M, F.binds hb⟩
theorem ICl.of {x : Str} {C : Addr} {qual : Str} {st : Stmt} {N ps : List Str} {k : Nat} {sp : Sp} (T : HasI K C qual st) (hm : mg x = some (.ref C)) (S : FnScope N ps (defScope st)) (len : ∀ vs H Q E, sp vs H Q E → vs.length = ps.length)
    (hb : ∀ (kV doc pm : Value) (an : Option Addr) (cdv ct : Value) (us : List Value), us.length = ps.length → bindArgs (PySem.W.fnOf "__init__" qual (defArgs st) (defBody st) (defScope st) .none kV doc pm an cdv ct) ⟨us, []⟩ = pure (ps.zip us))
    (hbody : ∀ (f : Addr) (cdv : Value) (A : Around) (outer : List Env) (s : Shared) (H : Hp) (vs : List V) (Q : VK) (E : XK), Room k (A.deeper (envOfC qual (defScope st) s.heap.objs.size f cdv)) → sp vs H Q E →
      ∃ t, PSs (cxOf CX0 P w K mg base N qual (defScope st) f cdv A outer s H E).nox (defBody st) t ∧ t { nx := fun _ H' => Q .non H', rt := Q } (start N vs) H) : ICl P w K mg base (k + 1) x C ps sp := by
  obtain ⟨f, fd, F, M⟩ := T
  exact ⟨f, fd, F.ok S len (fun cdv A outer s H vs Q E => hbody f cdv A outer s H vs Q E), M, hm, F.binds hb⟩
end
section
variable {X : Cx} {j k : Nat} {C : Addr} {x m : Str} {ps : List Str} {sp : Sp} {o e : Expr} {es : List Expr} {ta : TE} {t : TA} {p pos apos : Pos}
theorem pe_m {pl : Sem Bool} (M : MCl X.prog X.w X.K X.mg X.base j C m ps sp) (c : Cls X.K C) (hr : Room k X.A) (he : PE X o ta) (ha : PA X (e :: es) t) (hjk : j ≤ k := by decide)
    (hst : starEach (e :: es) X.env = (false, eval e X.env) :: starEach es X.env := by rfl) (hpl : (backTo pos (starEach es X.env)).any (·.1) = false := by rfl)
    (ht : eval (.Call (.Attribute o m apos) (e :: es) [] pos) X.env = (do
      let ov ← eval o X.env
      standAt apos.atName
      let (f, first) ← holding [ov] (getMethod ov m pl)
      callWith pos f first (backTo pos (starEach (e :: es) X.env)) (backToKw pos (keywordEach [] X.env))) := by rfl) :
    PE X (.Call (.Attribute o m apos) (e :: es) [] pos) (tMeth C m sp [] E0 ta t) := by
  obtain ⟨f, fd, F, hm, hb⟩ := M.ex
  exact pe_meth he c hm F (hr.mono hjk) hb .nil pass0 ha hst hpl ht
theorem pe_m0 {pl : Sem Bool} (M : MCl X.prog X.w X.K X.mg X.base j C m ps sp) (c : Cls X.K C) (hr : Room k X.A) (he : PE X o ta) (hjk : j ≤ k := by decide)
    (ht : eval (.Call (.Attribute o m apos) [] [] pos) X.env = (do
      let ov ← eval o X.env
      standAt apos.atName
      let (f, first) ← holding [ov] (getMethod ov m pl)
      callWith pos f first (backTo pos (starEach [] X.env)) (backToKw pos (keywordEach [] X.env))) := by rfl) :
    PE X (.Call (.Attribute o m apos) [] [] pos) (tMeth C m sp [] E0 ta tNil) := by
  obtain ⟨f, fd, F, hm, hb⟩ := M.ex
  exact pe_meth0 he c hm F (hr.mono hjk) hb .nil pass0 ht
theorem pe_mk (M : ICl X.prog X.w X.K X.mg X.base j x C ps sp) (hr : Room k X.A) (hg : Gl X x) (ha : PA X (e :: es) t) (hjk : j + 1 ≤ k := by decide) (hdb : (x == ("__debug__" : Str)) = false := by decide)
    (he : starEach (e :: es) X.env = (false, eval e X.env) :: starEach es X.env := by rfl) (hpl : (backTo pos (starEach es X.env)).any (·.1) = false := by rfl) :
    PE X (.Call (.Name x p) (e :: es) [] pos) (tMake C sp [] E0 t) := by
  obtain ⟨f, fd, F, M, hm, hb⟩ := M.ex
  exact pe_make M F (hr.mono hjk) hg hm hb .nil pass0 ha hdb he hpl
end
end L2
set_option Elab.async false
set_option linter.all false
set_option maxRecDepth 100000
set_option maxHeartbeats 16000000
namespace L2
open PySem PySem.Spec PyProof.Rows PySem.W RV
noncomputable def Itv (K : PySem.W.Frag) (a : Addr) (n : Nat) : It :=
  ⟨fun i H => i < n ∧ ∃ xs, SqT K H a xs ∧ xs.length = n, fun i H x H' => H' = H ∧ ∀ xs, SqT K H a xs → xs.length = n → xs.reverse[i]? = some x, fun i H => n ≤ i⟩
theorem turn_rev {P : Program} {w : World} {K : PySem.W.Frag} {tg : Expr} (a it : Addr) (n : Nat) : Turn P w K tg (Itv K a n) [it] it (fun i h => i ≤ n ∧ IsRevT h it a ((n : Int) - 1 - (i : Int))) where
  mem := by simp
  obj := fun i h st b hb => by
    have e : b = it := by simpa using hb
    subst e
    obtain ⟨_, o, e, c, d⟩ := st
    exact ⟨o, e, fun v z => by rw [d] at z; cases z⟩
  keep := fun i h h' st k => ⟨st.1, st.2.move fun o e => k it (by simp) o e⟩
  item := by
    intro X hP hw hK hc i pins s σ H E I hf st hg
    subst hP hw hK
    obtain ⟨hi, xs, hq, hn⟩ := hg
    obtain ⟨its, rv, p, hz⟩ := I.tuple hq
    have hl := rv.length
    obtain ⟨x, hx⟩ : ∃ x, xs[n - 1 - i]? = some x := ⟨xs[n - 1 - i]'(by omega), List.getElem?_eq_getElem (by omega)⟩
    obtain ⟨u, hu, ru⟩ := rv.get hx
    obtain ⟨f0, f1, f2, f3, f4, f5⟩ := hf it (by simp)
    have hit := st.2
    have e1 : (n : Int) - 1 - (i : Int) = ((n - 1 - i : Nat) : Int) := by omega
    rw [e1] at hit
    refine next_item (its := its.toArray) hit p (x := u) (by simpa using hu) (by simp; omega) fun h' tk hit' same => ?_
    have I1 : Inv X pins σ H { s with heap := h', toks := tk } := I.turned (t' := tk) (fun b o hb e => (same.2 b hb).trans e) f0 f1 f3 f4 f5
    have e2 : ((n - 1 - i : Nat) : Int) - 1 = (n : Int) - 1 - ((i + 1 : Nat) : Int) := by omega
    rw [e2] at hit'
    obtain ⟨o, e, c, d⟩ := id hit'
    refine ⟨u, rfl, go_of (s := { s with heap := h', toks := tk }) e c d (by decide) ⟨x, H, I1, ru, ⟨rfl, fun ys hy _ => ?_⟩, ⟨hi, hit'⟩, fun b hb => (hf b hb).1⟩⟩
    rw [I.tuple_inj hy hq, List.getElem?_reverse (by omega), hn]
    exact hx
  done := by
    intro X hP hw hK hc i pins s σ H E I hf st hg
    subst hP hw hK
    obtain ⟨f0, f1, f2, f3, f4, f5⟩ := hf it (by simp)
    have hit := st.2
    have hin : n ≤ i := hg
    have e1 : (n : Int) - 1 - (i : Int) = -1 := by have := st.1; omega
    rw [e1] at hit
    exact next_end (I.ok.hd hc) hit fun h' tk eb => ⟨rfl, I.turned (t' := tk) (fun b o hb e => eb b o hb e) f0 f1 f3 f4 f5⟩
  self := fun _ _ _ _ _ st h => iter_self st.2 h
noncomputable def iRev (K : PySem.W.Frag) (te : TE) : TI := fun σ H R => te σ H fun x H1 => ∃ a xs, x = .ref a ∧ SqT K H1 a xs ∧ R (Itv K a xs.length) H1
theorem pi_rev {X : Cx} {tg e : Expr} {te : TE} {p2 pos2 : Pos} (gR : Gl X "reversed") (mR : X.mg "reversed" = none) (he : PE X e te) (hs : starEach [e] X.env = [(false, eval e X.env)] := by rfl) : PI X tg (.Call (.Name "reversed" p2) [e] [] pos2) (iRev X.K te) := by
  intro pins s σ H R I h
  refine ev_rev he gR mR hs I h (fun x H1 s1 a xs its tk I1 q1 ex hv htup hz ht => ?_) fun x H1 q => by obtain ⟨a, xs, e1, e2, _⟩ := q; exact ⟨a, xs, e1, e2⟩
  obtain ⟨a', ys, e1, e2, q⟩ := q1
  have ea : a = a' := V.ref.inj (ex.symm.trans e1)
  subst ea
  have exy := I1.tuple_inj ht e2
  subst exy
  have hl := hv.length
  have st : IsRevT (s1.heap.push (revT a ((its.toArray.size : Int) - 1))) s1.heap.objs.size a ((its.toArray.size : Int) - 1) := ⟨_, Heap.get?_push_size _ rfl, rfl, by simp [revT]⟩
  refine iter_self (s := { s1 with heap := s1.heap.push (revT a ((its.toArray.size : Int) - 1)), toks := tk }) st ?_
  refine ⟨s1.heap.objs.size, [s1.heap.objs.size], _, _, H1, rfl, I1.kept (t' := tk) fun b o e => Heap.get?_push_of_some _ e, turn_rev a _ xs.length, ⟨Nat.zero_le _, ?_⟩, fun b hb => ?_, q⟩
  · have e3 : (xs.length : Int) - 1 - ((0 : Nat) : Int) = (its.toArray.size : Int) - 1 := by simp; omega
    rw [e3]
    exact st
  · have e : b = s1.heap.objs.size := by simpa using hb
    subst e
    exact I1.fpOk (Nat.le_refl _) (I1.hok.fresh (Nat.le_refl _))
theorem for_rev {K : PySem.W.Frag} {a : Addr} {xs : List V} {g : TG} {tb : TS} {D : Ends} {σ : St} {H : Hp} (Pv : Nat → St → Hp → Prop) (h0 : Pv 0 σ H) (hl : ∀ i σ H, i ≤ xs.length → Pv i σ H → SqT K H a xs)
    (hs : ∀ i x σ H, xs.reverse[i]? = some x → Pv i σ H → g x σ H fun σ2 H2 => tb { D with nx := Pv (i + 1), ct := Pv (i + 1), bk := D.nx } σ2 H2) (hd : ∀ σ H, Pv xs.length σ H → D.nx σ H) :
    ∃ W : Nat → Nat → St → Hp → Prop, (∃ m, W 0 m σ H) ∧ ∀ i m σ H, W i m σ H →
      ((Itv K a xs.length).stop i H ∧ D.nx σ H) ∨ ((Itv K a xs.length).go i H ∧ ∃ N : St → Hp → Prop, (∀ σ' H', N σ' H' → ∃ m', m' < m ∧ W (i + 1) m' σ' H') ∧ ∀ x H', (Itv K a xs.length).yld i H x H' → g x σ H' fun σ2 H2 => tb { D with nx := N, ct := N, bk := D.nx } σ2 H2) := by
  refine ⟨fun i m σ H => m = xs.length - i ∧ i ≤ xs.length ∧ Pv i σ H, ⟨xs.length, by simp, Nat.zero_le _, h0⟩, ?_⟩
  rintro i m σ H ⟨rfl, hi, p⟩
  have q := hl i σ H hi p
  by_cases hlt : i < xs.length
  · refine .inr ⟨⟨hlt, xs, q, rfl⟩, Pv (i + 1), fun σ' H' p' => ⟨xs.length - (i + 1), by omega, rfl, hlt, p'⟩, fun x H' y => ?_⟩
    obtain ⟨e, y⟩ := y
    subst e
    exact hs i x σ _ (y xs q rfl) p
  · have e : i = xs.length := by omega
    subst e
    exact .inl ⟨Nat.le_refl _, hd σ H p⟩
end L2
set_option Elab.async false
set_option linter.all false
set_option maxRecDepth 100000
set_option maxHeartbeats 16000000
namespace L2
open PySem PySem.Spec PyProof.Rows
noncomputable def kN (q : Str × Nat) : List Key := [Sum.inr q.1, Sum.inl ((q.2 : Nat) : Int)]
noncomputable def kS (q : Str × Str) : List Key := [Sum.inr q.1, Sum.inr q.2]
structure Nt where
  ps : List Pt
  km : Str × Str → Option (Str × Nat)
noncomputable def wF (rd md : Addr) : List (Str × V) := [("rows", .ref rd), ("makers", .ref md)]
structure GA where
  w : Addr
  n : Addr
  b : Addr
  l : Addr
  gv : Addr
  wt : Addr
  tr : Addr
noncomputable def gF (A : GA) (tk : Int) (ft : V) : List (Str × V) := [("walk", .ref A.w), ("numbers", .ref A.n), ("taken", .int tk), ("begun", .ref A.b), ("loaded", .ref A.l), ("given", .ref A.gv), ("waiting", .ref A.wt), ("trace", .ref A.tr), ("fault", ft)]
section
variable {A : GA} {tk : Int} {ft : V} {rd md : Addr}
theorem lw_rows : (wF rd md).lookup ("rows" : Str) = some (.ref rd) := by kernel_rfl
theorem lw_makers : (wF rd md).lookup ("makers" : Str) = some (.ref md) := by kernel_rfl
theorem lw_rows_of : (wF rd md).lookup ("rows_of" : Str) = none := by kernel_rfl
theorem lw_key_of : (wF rd md).lookup ("key_of" : Str) = none := by kernel_rfl
theorem lw_loads_of : (wF rd md).lookup ("loads_of" : Str) = none := by kernel_rfl
theorem lw_ahead_of : (wF rd md).lookup ("ahead_of" : Str) = none := by kernel_rfl
theorem lw_go : (wF rd md).lookup ("go" : Str) = none := by kernel_rfl
theorem lg_walk : (gF A tk ft).lookup ("walk" : Str) = some (.ref A.w) := by kernel_rfl
theorem lg_numbers : (gF A tk ft).lookup ("numbers" : Str) = some (.ref A.n) := by kernel_rfl
theorem lg_taken : (gF A tk ft).lookup ("taken" : Str) = some (.int tk) := by kernel_rfl
theorem lg_begun : (gF A tk ft).lookup ("begun" : Str) = some (.ref A.b) := by kernel_rfl
theorem lg_given : (gF A tk ft).lookup ("given" : Str) = some (.ref A.gv) := by kernel_rfl
theorem lg_waiting : (gF A tk ft).lookup ("waiting" : Str) = some (.ref A.wt) := by kernel_rfl
theorem lg_trace : (gF A tk ft).lookup ("trace" : Str) = some (.ref A.tr) := by kernel_rfl
theorem lg_fault : (gF A tk ft).lookup ("fault" : Str) = some ft := by kernel_rfl
theorem lg_load : (gF A tk ft).lookup ("load" : Str) = none := by kernel_rfl
theorem lg_begin : (gF A tk ft).lookup ("begin" : Str) = none := by kernel_rfl
theorem lg_go_on : (gF A tk ft).lookup ("go_on" : Str) = none := by kernel_rfl
theorem lg_do_row : (gF A tk ft).lookup ("do_row" : Str) = none := by kernel_rfl
theorem lg_is_off : (gF A tk ft).lookup ("is_off" : Str) = none := by kernel_rfl
theorem lg_early_word : (gF A tk ft).lookup ("early_word" : Str) = none := by kernel_rfl
theorem lg_enter : (gF A tk ft).lookup ("enter" : Str) = none := by kernel_rfl
theorem lg_do_work : (gF A tk ft).lookup ("do_work" : Str) = none := by kernel_rfl
theorem lg_give : (gF A tk ft).lookup ("give" : Str) = none := by kernel_rfl
theorem lg_next_told : (gF A tk ft).lookup ("next_told" : Str) = none := by kernel_rfl
theorem lg_value_of : (gF A tk ft).lookup ("value_of" : Str) = none := by kernel_rfl
theorem lg_thing_value : (gF A tk ft).lookup ("thing_value" : Str) = none := by kernel_rfl
theorem put_taken (v : Int) : putF "taken" (.int v) (gF A tk ft) = gF A v ft := by kernel_rfl
theorem put_fault (v : V) : putF "fault" v (gF A tk ft) = gF A tk v := by kernel_rfl
theorem gF_len : (gF A tk ft).length < 1000 := by show 9 < 1000; decide
end
structure WalkAt (CP : Addr) (H : Hp) (w : Addr) (N : Nt) : Prop where
  ex : ∃ dx rd md kvr kvm, H w = some (.ins CP dx (wF rd md)) ∧ H rd = some (.dK kvr) ∧ H md = some (.dT kvm) ∧
    (∀ n rs, (n, rs) ∈ N.ps → ∃ u ws, valV kvr (Sum.inr n) = some (.ref u) ∧ H u = some (.tup ws) ∧ RowsAt H ws rs) ∧
    (∀ p x q, N.km (p, x) = some q → ∃ t, valV kvm (kS (p, x)) = some (.ref t) ∧ H t = some (.tup ((kN q).map kV)))
theorem walk_same {CP : Addr} {H H' : Hp} {w : Addr} {N : Nt} (h : WalkAt CP H w N) (s : Same H H') : WalkAt CP H' w N := by
  obtain ⟨dx, rd, md, kvr, kvm, h1, h2, h3, h4, h5⟩ := h.ex
  refine ⟨dx, rd, md, kvr, kvm, s _ _ h1, s _ _ h2, s _ _ h3, fun n rs hm => ?_, fun p x q hq => ?_⟩
  · obtain ⟨u, ws, e1, e2, e3⟩ := h4 n rs hm
    exact ⟨u, ws, e1, s _ _ e2, e3.mono s.tups⟩
  · obtain ⟨t, e1, e2⟩ := h5 p x q hq
    exact ⟨t, e1, s _ _ e2⟩
noncomputable def Fr (g : Addr) (A : GA) (H H' : Hp) : Prop := ∀ a o, H a = some o → a ≠ g → a ≠ A.b → a ≠ A.l → a ≠ A.gv → a ≠ A.wt → a ≠ A.tr → H' a = some o
theorem Fr.refl (g : Addr) (A : GA) (H : Hp) : Fr g A H H := fun _ _ e _ _ _ _ _ _ => e
theorem Fr.trans {g : Addr} {A : GA} {H H1 H2 : Hp} (h : Fr g A H H1) (k : Fr g A H1 H2) : Fr g A H H2 := fun a o e h1 h2 h3 h4 h5 h6 => k a o (h a o e h1 h2 h3 h4 h5 h6) h1 h2 h3 h4 h5 h6
theorem Same.fr {H H' : Hp} (s : Same H H') (g : Addr) (A : GA) : Fr g A H H' := fun a o e _ _ _ _ _ _ => s a o e
noncomputable abbrev Wx := Str × Nat × Rw
noncomputable abbrev Dd := Str × Int × Str × Nat
noncomputable abbrev Ft := Str × Str × Nat × Int
noncomputable def WtAt (H : Hp) (v : V) (x : Wx) : Prop := ∃ t wh r, v = .ref t ∧ H t = some (.tup [.str x.1, .ref wh, .ref r]) ∧ H wh = some (.tup [.str x.1, .int (x.2.1 : Int)]) ∧ RowAt H r x.2.2
noncomputable def DdAt (H : Hp) (v : V) (d : Dd) : Prop := ∃ t, v = .ref t ∧ H t = some (.tup [.str d.1, .int d.2.1, .str d.2.2.1, .int (d.2.2.2 : Int)])
noncomputable def FtAt (H : Hp) (v : V) : Option Ft → Prop
  | none => v = .non
  | some f => ∃ t, v = .ref t ∧ H t = some (.tup [.str f.1, .str f.2.1, .int (f.2.2.1 : Int), .int f.2.2.2])
theorem WtAt.mono {H H' : Hp} (s : Tups H H') {v : V} {x : Wx} (h : WtAt H v x) : WtAt H' v x := by
  obtain ⟨t, wh, r, e, h1, h2, h3⟩ := h
  exact ⟨t, wh, r, e, s _ _ h1, s _ _ h2, h3.mono s⟩
theorem DdAt.mono {H H' : Hp} (s : Tups H H') {v : V} {x : Dd} (h : DdAt H v x) : DdAt H' v x := by
  obtain ⟨t, e, h1⟩ := h
  exact ⟨t, e, s _ _ h1⟩
theorem FtAt.mono {H H' : Hp} (s : Tups H H') {v : V} {x : Option Ft} (h : FtAt H v x) : FtAt H' v x := by
  cases x with
  | none => exact h
  | some f =>
    obtain ⟨t, e, h1⟩ := h
    exact ⟨t, e, s _ _ h1⟩
structure GS where
  tk : Nat
  bg : List Str
  gv : List (List Key × V)
  wt : List Wx
  tr : List Dd
  ft : Option Ft
structure GoAt (CP CG : Addr) (H : Hp) (g : Addr) (A : GA) (N : Nt) (ns : List Int) (S : GS) : Prop where
  ob : ∃ dx v, H g = some (.ins CG dx (gF A (S.tk : Int) v)) ∧ FtAt H v S.ft
  nm : H A.n = some (.tup (ns.map V.int))
  bg : H A.b = some (.dK (setD S.bg))
  ld : H A.l = some (.dK [])
  gv : H A.gv = some (.dT S.gv)
  wt : ∃ vs, H A.wt = some (.lst vs) ∧ Paired (WtAt H) vs S.wt
  tr : ∃ vs, H A.tr = some (.lst vs) ∧ Paired (DdAt H) vs S.tr
  wk : WalkAt CP H A.w N
  n1 : A.wt ≠ A.tr
  n2 : A.b ≠ A.l
  n3 : ∀ dx rd md, H A.w = some (.ins CP dx (wF rd md)) → rd ≠ A.b ∧ rd ≠ A.l ∧ md ≠ A.gv
  gi : ∀ k v, valV S.gv k = some v → ∃ i : Int, v = .int i
  tkl : S.tk ≤ ns.length
theorem GoAt.nw {CP CG : Addr} {H : Hp} {g : Addr} {A : GA} {N : Nt} {ns : List Int} {S : GS} (h : GoAt CP CG H g A N ns S) : A.w ≠ g := by
  obtain ⟨dx, v, h1, _⟩ := h.ob
  obtain ⟨dy, rd, md, _, _, h2, _⟩ := h.wk.ex
  intro z
  rw [z, h1] at h2
  have := Option.some.inj h2
  injection this with _ _ e
  have := congrArg List.length e
  simp [gF, wF] at this
theorem GoAt.tups {CP CG : Addr} {H H' : Hp} {g : Addr} {A : GA} {N : Nt} {ns : List Int} {S : GS} (h : GoAt CP CG H g A N ns S) (f : Fr g A H H') : Tups H H' := fun a xs e => by
  obtain ⟨dx, v, h1, _⟩ := h.ob
  obtain ⟨vs, h2, _⟩ := h.wt
  obtain ⟨us, h3, _⟩ := h.tr
  have h4 := h.bg
  have h5 := h.ld
  have h6 := h.gv
  refine f a _ e ?_ ?_ ?_ ?_ ?_ ?_ <;> (intro z; subst z)
  · rw [h1] at e; cases e
  · rw [h4] at e; cases e
  · rw [h5] at e; cases e
  · rw [h6] at e; cases e
  · rw [h2] at e; cases e
  · rw [h3] at e; cases e
theorem GoAt.walk {CP CG : Addr} {H H' : Hp} {g : Addr} {A : GA} {N : Nt} {ns : List Int} {S : GS} (h : GoAt CP CG H g A N ns S) (f : Fr g A H H') : WalkAt CP H' A.w N ∧ ∀ dx rd md, H' A.w = some (.ins CP dx (wF rd md)) → rd ≠ A.b ∧ rd ≠ A.l ∧ md ≠ A.gv := by
  have T := h.tups f
  have nw := h.nw
  obtain ⟨dx, rd, md, kvr, kvm, h1, h2, h3, h4, h5⟩ := h.wk.ex
  obtain ⟨m1, m2, m3⟩ := h.n3 dx rd md h1
  obtain ⟨dy, v, g1, _⟩ := h.ob
  obtain ⟨vs, g2, _⟩ := h.wt
  obtain ⟨us, g3, _⟩ := h.tr
  have g4 := h.bg
  have g5 := h.ld
  have g6 := h.gv
  have k1 : H' A.w = some (.ins CP dx (wF rd md)) := by
    refine f _ _ h1 nw ?_ ?_ ?_ ?_ ?_ <;> (intro z; rw [z] at h1)
    · rw [g4] at h1; cases h1
    · rw [g5] at h1; cases h1
    · rw [g6] at h1; cases h1
    · rw [g2] at h1; cases h1
    · rw [g3] at h1; cases h1
  have k2 : H' rd = some (.dK kvr) := by
    refine f _ _ h2 ?_ m1 m2 ?_ ?_ ?_ <;> (intro z; rw [z] at h2)
    · rw [g1] at h2; cases h2
    · rw [g6] at h2; cases h2
    · rw [g2] at h2; cases h2
    · rw [g3] at h2; cases h2
  have k3 : H' md = some (.dT kvm) := by
    refine f _ _ h3 ?_ ?_ ?_ m3 ?_ ?_ <;> (intro z; rw [z] at h3)
    · rw [g1] at h3; cases h3
    · rw [g4] at h3; cases h3
    · rw [g5] at h3; cases h3
    · rw [g2] at h3; cases h3
    · rw [g3] at h3; cases h3
  refine ⟨⟨dx, rd, md, kvr, kvm, k1, k2, k3, fun n rs hm => ?_, fun p x q hq => ?_⟩, fun dx' rd' md' e => ?_⟩
  · obtain ⟨u, ws, e1, e2, e3⟩ := h4 n rs hm
    exact ⟨u, ws, e1, T _ _ e2, e3.mono T⟩
  · obtain ⟨t, e1, e2⟩ := h5 p x q hq
    exact ⟨t, e1, T _ _ e2⟩
  · rw [k1] at e
    have := Option.some.inj e
    injection this with _ _ e3
    have e4 : rd = rd' := by injection e3 with e5 _; injection e5 with _ e6; exact V.ref.inj e6
    have e5 : md = md' := by injection e3 with _ e6; injection e6 with e7 _; injection e7 with _ e8; exact V.ref.inj e8
    subst e4
    subst e5
    exact ⟨m1, m2, m3⟩
theorem GoAt.again {CP CG : Addr} {H H' : Hp} {g : Addr} {A : GA} {N : Nt} {ns : List Int} {S S' : GS} (h : GoAt CP CG H g A N ns S) (f : Fr g A H H')
    (ob : ∃ dx v, H' g = some (.ins CG dx (gF A (S'.tk : Int) v)) ∧ FtAt H' v S'.ft) (bg : H' A.b = some (.dK (setD S'.bg))) (ld : H' A.l = some (.dK [])) (gv : H' A.gv = some (.dT S'.gv))
    (wt : ∃ vs, H' A.wt = some (.lst vs) ∧ Paired (WtAt H') vs S'.wt) (tr : ∃ vs, H' A.tr = some (.lst vs) ∧ Paired (DdAt H') vs S'.tr) (gi : ∀ k v, valV S'.gv k = some v → ∃ i : Int, v = .int i) (tkl : S'.tk ≤ ns.length) : GoAt CP CG H' g A N ns S' :=
  ⟨ob, h.tups f _ _ h.nm, bg, ld, gv, wt, tr, (h.walk f).1, h.n1, h.n2, (h.walk f).2, gi, tkl⟩
theorem GoAt.same {CP CG : Addr} {H H' : Hp} {g : Addr} {A : GA} {N : Nt} {ns : List Int} {S : GS} (h : GoAt CP CG H g A N ns S) (s : Same H H') : GoAt CP CG H' g A N ns S := by
  obtain ⟨dx, v, h1, h2⟩ := h.ob
  obtain ⟨vs, h3, h4⟩ := h.wt
  obtain ⟨us, h5, h6⟩ := h.tr
  exact h.again (s.fr g A) ⟨dx, v, s _ _ h1, h2.mono s.tups⟩ (s _ _ h.bg) (s _ _ h.ld) (s _ _ h.gv) ⟨vs, s _ _ h3, Paired.mapP h4 fun _ _ z => z.mono s.tups⟩ ⟨us, s _ _ h5, Paired.mapP h6 fun _ _ z => z.mono s.tups⟩ h.gi h.tkl
theorem GoAt.apart {CP CG : Addr} {H : Hp} {g : Addr} {A : GA} {N : Nt} {ns : List Int} {S : GS} (h : GoAt CP CG H g A N ns S) : g ≠ A.b ∧ g ≠ A.l ∧ g ≠ A.gv ∧ g ≠ A.wt ∧ g ≠ A.tr ∧ A.b ≠ A.gv ∧ A.b ≠ A.wt ∧ A.b ≠ A.tr ∧ A.l ≠ A.gv ∧ A.l ≠ A.wt ∧ A.l ≠ A.tr ∧ A.gv ≠ A.wt ∧ A.gv ≠ A.tr := by
  obtain ⟨dx, v, h1, _⟩ := h.ob
  obtain ⟨vs, h2, _⟩ := h.wt
  obtain ⟨us, h3, _⟩ := h.tr
  have h4 := h.bg
  have h5 := h.ld
  have h6 := h.gv
  refine ⟨ne_of h1 h4 (by intro z; cases z), ne_of h1 h5 (by intro z; cases z), ne_of h1 h6 (by intro z; cases z), ne_of h1 h2 (by intro z; cases z), ne_of h1 h3 (by intro z; cases z), ne_of h4 h6 (by intro z; cases z), ne_of h4 h2 (by intro z; cases z), ne_of h4 h3 (by intro z; cases z), ne_of h5 h6 (by intro z; cases z), ne_of h5 h2 (by intro z; cases z), ne_of h5 h3 (by intro z; cases z), ne_of h6 h2 (by intro z; cases z), ne_of h6 h3 (by intro z; cases z)⟩
section
variable {CP CG : Addr} {H : Hp} {g : Addr} {A : GA} {N : Nt} {ns : List Int} {S : GS}
theorem GoAt.putGiven (h : GoAt CP CG H g A N ns S) (q : Str × Nat) (i : Int) : Fr g A H (upd H A.gv (.dT (putK S.gv (kN q) (.int i)))) ∧ GoAt CP CG (upd H A.gv (.dT (putK S.gv (kN q) (.int i)))) g A N ns { S with gv := putK S.gv (kN q) (.int i) } := by
  have f : Fr g A H (upd H A.gv (.dT (putK S.gv (kN q) (.int i)))) := fun a o e _ _ _ h4 _ _ => by rw [upd_ne h4]; exact e
  have T := h.tups f
  obtain ⟨a1, a2, a3, a4, a5, a6, a7, a8, a9, a10, a11, a12, a13⟩ := h.apart
  obtain ⟨dx, v, h1, h2⟩ := h.ob
  obtain ⟨vs, h3, h4⟩ := h.wt
  obtain ⟨us, h5, h6⟩ := h.tr
  refine ⟨f, h.again f ⟨dx, v, by rw [upd_ne a3]; exact h1, h2.mono T⟩ (by rw [upd_ne a6]; exact h.bg) (by rw [upd_ne a9]; exact h.ld) upd_same ⟨vs, by rw [upd_ne a12.symm]; exact h3, Paired.mapP h4 fun _ _ z => z.mono T⟩ ⟨us, by rw [upd_ne a13.symm]; exact h5, Paired.mapP h6 fun _ _ z => z.mono T⟩ (fun k w e => ?_) h.tkl⟩
  have e' : valV (putK S.gv (kN q) (.int i)) k = some w := e
  rw [valV_put] at e'
  split at e'
  · exact ⟨i, (Option.some.inj e').symm⟩
  · exact h.gi k w e'
theorem GoAt.pushTrace (h : GoAt CP CG H g A N ns S) {us : List V} {v : V} {d : Dd} (hu : H A.tr = some (.lst us)) (hv : DdAt H v d) : Fr g A H (upd H A.tr (.lst (us ++ [v]))) ∧ GoAt CP CG (upd H A.tr (.lst (us ++ [v]))) g A N ns { S with tr := S.tr ++ [d] } := by
  have f : Fr g A H (upd H A.tr (.lst (us ++ [v]))) := fun a o e _ _ _ _ _ h6 => by rw [upd_ne h6]; exact e
  have T := h.tups f
  obtain ⟨a1, a2, a3, a4, a5, a6, a7, a8, a9, a10, a11, a12, a13⟩ := h.apart
  obtain ⟨dx, w, h1, h2⟩ := h.ob
  obtain ⟨vs, h3, h4⟩ := h.wt
  obtain ⟨us', h5, h6⟩ := h.tr
  rw [hu] at h5
  cases h5
  exact ⟨f, h.again f ⟨dx, w, by rw [upd_ne a5]; exact h1, h2.mono T⟩ (by rw [upd_ne a8]; exact h.bg) (by rw [upd_ne a11]; exact h.ld) (by rw [upd_ne a13]; exact h.gv) ⟨vs, by rw [upd_ne h.n1]; exact h3, Paired.mapP h4 fun _ _ z => z.mono T⟩ ⟨_, upd_same, Paired.snoc (Paired.mapP h6 fun _ _ z => z.mono T) (hv.mono T)⟩ h.gi h.tkl⟩
theorem GoAt.setWait (h : GoAt CP CG H g A N ns S) {vs : List V} {ws : List Wx} (hv : Paired (WtAt H) vs ws) : Fr g A H (upd H A.wt (.lst vs)) ∧ GoAt CP CG (upd H A.wt (.lst vs)) g A N ns { S with wt := ws } := by
  have f : Fr g A H (upd H A.wt (.lst vs)) := fun a o e _ _ _ _ h5 _ => by rw [upd_ne h5]; exact e
  have T := h.tups f
  obtain ⟨a1, a2, a3, a4, a5, a6, a7, a8, a9, a10, a11, a12, a13⟩ := h.apart
  obtain ⟨dx, w, h1, h2⟩ := h.ob
  obtain ⟨us, h5, h6⟩ := h.tr
  exact ⟨f, h.again f ⟨dx, w, by rw [upd_ne a4]; exact h1, h2.mono T⟩ (by rw [upd_ne a7]; exact h.bg) (by rw [upd_ne a10]; exact h.ld) (by rw [upd_ne a12]; exact h.gv) ⟨vs, upd_same, Paired.mapP hv fun _ _ z => z.mono T⟩ ⟨us, by rw [upd_ne h.n1.symm]; exact h5, Paired.mapP h6 fun _ _ z => z.mono T⟩ h.gi h.tkl⟩
theorem GoAt.setBegun (h : GoAt CP CG H g A N ns S) (l : List Str) : Fr g A H (upd H A.b (.dK (setD l))) ∧ GoAt CP CG (upd H A.b (.dK (setD l))) g A N ns { S with bg := l } := by
  have f : Fr g A H (upd H A.b (.dK (setD l))) := fun a o e _ h2 _ _ _ _ => by rw [upd_ne h2]; exact e
  have T := h.tups f
  obtain ⟨a1, a2, a3, a4, a5, a6, a7, a8, a9, a10, a11, a12, a13⟩ := h.apart
  obtain ⟨dx, w, h1, h2⟩ := h.ob
  obtain ⟨vs, h3, h4⟩ := h.wt
  obtain ⟨us, h5, h6⟩ := h.tr
  exact ⟨f, h.again f ⟨dx, w, by rw [upd_ne a1]; exact h1, h2.mono T⟩ upd_same (by rw [upd_ne h.n2.symm]; exact h.ld) (by rw [upd_ne a6.symm]; exact h.gv) ⟨vs, by rw [upd_ne a7.symm]; exact h3, Paired.mapP h4 fun _ _ z => z.mono T⟩ ⟨us, by rw [upd_ne a8.symm]; exact h5, Paired.mapP h6 fun _ _ z => z.mono T⟩ h.gi h.tkl⟩
theorem GoAt.setSelf (h : GoAt CP CG H g A N ns S) {dx : Addr} {tk : Nat} {v : V} {ft : Option Ft} (hv : FtAt H v ft) (ht : tk ≤ ns.length) : Fr g A H (upd H g (.ins CG dx (gF A (tk : Int) v))) ∧ GoAt CP CG (upd H g (.ins CG dx (gF A (tk : Int) v))) g A N ns { S with tk := tk, ft := ft } := by
  have f : Fr g A H (upd H g (.ins CG dx (gF A (tk : Int) v))) := fun a o e h1 _ _ _ _ _ => by rw [upd_ne h1]; exact e
  have T := h.tups f
  obtain ⟨a1, a2, a3, a4, a5, a6, a7, a8, a9, a10, a11, a12, a13⟩ := h.apart
  obtain ⟨vs, h3, h4⟩ := h.wt
  obtain ⟨us, h5, h6⟩ := h.tr
  exact ⟨f, h.again f ⟨dx, v, upd_same, hv.mono T⟩ (by rw [upd_ne a1.symm]; exact h.bg) (by rw [upd_ne a2.symm]; exact h.ld) (by rw [upd_ne a3.symm]; exact h.gv) ⟨vs, by rw [upd_ne a4.symm]; exact h3, Paired.mapP h4 fun _ _ z => z.mono T⟩ ⟨us, by rw [upd_ne a5.symm]; exact h5, Paired.mapP h6 fun _ _ z => z.mono T⟩ h.gi ht⟩
end
noncomputable def lk (N : Nt) (gv : List (List Key × V)) (p x : Str) : Option V := (N.km (p, x)).bind fun q => valV gv (kN q)
noncomputable def ivl : Option V → Int
  | some (.int i) => i
  | _ => 0
noncomputable def tv (N : Nt) (gv : List (List Key × V)) (p : Str) : Th → Int
  | .num n => n
  | .nam x => ivl (lk N gv p x)
noncomputable def sumV (N : Nt) (gv : List (List Key × V)) (p : Str) (ts : List (Int × Th)) : Int := ts.foldl (fun a t => a + t.1 * tv N gv p t.2) 0
theorem sumV_snoc (N : Nt) (gv : List (List Key × V)) (p : Str) (ts : List (Int × Th)) (t : Int × Th) : sumV N gv p (ts ++ [t]) = sumV N gv p ts + t.1 * tv N gv p t.2 := by
  unfold sumV
  rw [List.foldl_append]
  rfl
noncomputable def offR (N : Nt) (gv : List (List Key × V)) (p : Str) : Rw → Bool
  | .say _ (some x) => (lk N gv p x).isSome && decide (ivl (lk N gv p x) ≤ 0)
  | .ask _ (some x) => (lk N gv p x).isSome && decide (ivl (lk N gv p x) ≤ 0)
  | _ => false
noncomputable def rdR : Rw → List (Int × Str)
  | .set _ ts => namesOf 3 ts
  | .need ts => namesOf 1 ts
  | .say ts none => namesOf 1 ts
  | .say ts (some x) => (2 * (ts.length : Int) + 1, x) :: namesOf 1 ts
  | .ask _ (some x) => [(3, x)]
  | _ => []
noncomputable def earlyR (N : Nt) (gv : List (List Key × V)) (p : Str) (rw : Rw) : Option Int := ((rdR rw).find? fun d => !(lk N gv p d.2).isSome).map (·.1)
noncomputable def ownR : Rw → Option Str
  | .set o _ => some o
  | .take o => some o
  | _ => none
noncomputable def sgR : Rw → List (Int × Th)
  | .set _ ts => ts
  | .need ts => ts
  | .say ts _ => ts
  | _ => []
noncomputable def idxRows (p : Str) (rs : List Rw) : List Wx := rs.mapIdx fun i r => (p, i, r)
noncomputable def rowsN (N : Nt) (p : Str) : List Rw := ((N.ps.find? fun q => decide (q.1 = p)).map (·.2)).getD []
noncomputable def beginS (N : Nt) (S : GS) (p : Str) : GS := { S with bg := addN S.bg p, wt := S.wt ++ (idxRows p (rowsN N p)).reverse }
noncomputable def workS (N : Nt) (ns : List Int) (S : GS) (p : Str) (j : Nat) : Rw → GS
  | .set o ts => match N.km (p, o) with
    | some q => { S with gv := putK S.gv (kN q) (.int (sumV N S.gv p ts)) }
    | none => S
  | .take o => match N.km (p, o) with
    | some q => { S with tk := if S.tk = ns.length then S.tk else S.tk + 1, gv := putK S.gv (kN q) (.int (ns.getD S.tk 0)), tr := S.tr ++ [(("take" : Str), ns.getD S.tk 0, p, j)] }
    | none => S
  | .say ts _ => { S with tr := S.tr ++ [(("say" : Str), sumV N S.gv p ts, p, j)] }
  | .need ts => if sumV N S.gv p ts ≤ 0 then { S with ft := some ("need", p, j, 0) } else S
  | _ => S
noncomputable def enterS (N : Nt) (S : GS) (q : Str) : GS := if q ∈ S.bg then S else beginS N S q
noncomputable def tailS (N : Nt) (ns : List Int) (S : GS) (p : Str) (j : Nat) : Rw → GS
  | .bring q _ => enterS N S q
  | .ask q _ => enterS N S q
  | .set o ts => workS N ns S p j (.set o ts)
  | .take o => workS N ns S p j (.take o)
  | .say ts w => workS N ns S p j (.say ts w)
  | .need ts => workS N ns S p j (.need ts)
  | _ => S
noncomputable def rowS (N : Nt) (ns : List Int) (S : GS) (p : Str) (j : Nat) (rw : Rw) : GS :=
  if offR N S.gv p rw = true then S else match earlyR N S.gv p rw with
    | some w => { S with ft := some ("early", p, j, w) }
    | none => tailS N ns S p j rw
theorem rowS_none {N : Nt} {ns : List Int} {S : GS} {p : Str} {j : Nat} {rw : Rw} (h : offR N S.gv p rw = false) (k : earlyR N S.gv p rw = none) : rowS N ns S p j rw = tailS N ns S p j rw := by
  unfold rowS
  rw [h, k]
  rfl
theorem rowS_early {N : Nt} {ns : List Int} {S : GS} {p : Str} {j : Nat} {rw : Rw} {w : Int} (h : offR N S.gv p rw = false) (k : earlyR N S.gv p rw = some w) : rowS N ns S p j rw = { S with ft := some ("early", p, j, w) } := by
  unfold rowS
  rw [h, k]
  rfl
theorem rowS_off {N : Nt} {ns : List Int} {S : GS} {p : Str} {j : Nat} {rw : Rw} (h : offR N S.gv p rw = true) : rowS N ns S p j rw = S := by
  unfold rowS
  rw [if_pos h]
end L2
set_option Elab.async false
set_option linter.all false
set_option maxRecDepth 100000
set_option maxHeartbeats 16000000
namespace L2
open PySem PySem.Spec PyProof.Rows
end L2
set_option linter.all false
namespace L2
open PySem
@[elab_as_elim] theorem len1 {α : Type} {p : List α → Prop} (us : List α) (hl : us.length = 1) (h : ∀ a, p [a]) : p us := match us, hl with | [a], _ => h a
@[elab_as_elim] theorem len2 {α : Type} {p : List α → Prop} (us : List α) (hl : us.length = 2) (h : ∀ a b, p [a, b]) : p us := match us, hl with | [a, b], _ => h a b
@[elab_as_elim] theorem len3 {α : Type} {p : List α → Prop} (us : List α) (hl : us.length = 3) (h : ∀ a b c, p [a, b, c]) : p us := match us, hl with | [a, b, c], _ => h a b c
@[elab_as_elim] theorem len4 {α : Type} {p : List α → Prop} (us : List α) (hl : us.length = 4) (h : ∀ a b c d, p [a, b, c, d]) : p us := match us, hl with | [a, b, c, d], _ => h a b c d
end L2
set_option Elab.async false
set_option linter.all false
set_option maxRecDepth 100000
set_option maxHeartbeats 16000000
namespace L2
open PySem PySem.Spec PyProof.Rows
section
variable {X : Cx}
end
end L2
set_option Elab.async false
set_option linter.all false
set_option maxRecDepth 100000
set_option maxHeartbeats 16000000
namespace L2
open PySem PySem.Spec PyProof.Rows
section
variable {X : Cx}
end
end L2
set_option Elab.async false
set_option linter.all false
set_option maxRecDepth 100000
set_option maxHeartbeats 16000000
namespace L2
open PySem PySem.Spec PyProof.Rows
section
variable {prog : Program} {w : World} {A : Around} {E : Value → Shared → Prop} {s : Shared}
end
section
variable {X : Cx}
end
end L2
set_option Elab.async false
set_option linter.all false
set_option maxRecDepth 100000
set_option maxHeartbeats 16000000
namespace L2
open PySem PySem.Spec PyProof.Rows
section
variable {X : Cx}
end
end L2
set_option Elab.async false
set_option linter.all false
set_option maxRecDepth 100000
set_option maxHeartbeats 16000000
namespace L2
open PySem PySem.Spec PyProof.Rows PySem.W RG
open AutoSeq1 (wpAny_loadPart')
section
variable {prog : Program} {w : World} {A : Around} {E : Value → Shared → Prop} {s : Shared}
end
section
variable {X : Cx} {e : Expr} {te : TE} {pos pos3 p p3 : Pos}
end
end L2
set_option Elab.async false
set_option linter.all false
set_option maxRecDepth 100000
set_option maxHeartbeats 16000000
namespace L2
open PySem PySem.Spec PyProof.Rows PySem.W
section
variable {X : Cx} {e : Expr} {te : TE} {pos pos3 p p3 : Pos}
end
end L2
set_option Elab.async false
set_option linter.all false
set_option maxRecDepth 100000
set_option maxHeartbeats 16000000
namespace L2
open PySem PySem.Spec PyProof.Rows PySem.W
section
variable {prog : Program} {w : World} {A : Around} {R : Result → Shared → Prop} {it best : Addr} {fp wr : List Addr} {n : Nat} {P : Nat → Value → Prop} {St : Nat → Heap → Prop}
end
section
variable {X : Cx}
end
end L2
set_option Elab.async false
set_option linter.all false
set_option maxRecDepth 100000
set_option maxHeartbeats 16000000
namespace L2
open PySem PySem.Spec PyProof.Rows
section
variable {X : Cx}
end
end L2
set_option Elab.async false
set_option linter.all false
set_option maxRecDepth 100000
set_option maxHeartbeats 16000000
namespace L2
open PySem PySem.Spec PyProof.Rows
noncomputable def EqD (K : PySem.W.Frag) (H : Hp) : Nat → V → V → Prop
  | 0, x, y => x = y ∧ flatV x = true
  | n + 1, x, y => (x = y ∧ flatV x = true) ∨ ∃ a b xs ys, x = .ref a ∧ y = .ref b ∧ SqT K H a xs ∧ SqT K H b ys ∧ Paired (EqD K H n) xs ys
theorem val_at {xs : List V} {its : List Value} (r : Vals xs its) {j : Nat} {x : V} (h : xs[j]? = some x) (hj : j < its.toArray.size) : RelV x its.toArray[j] := by
  obtain ⟨w1, g1, rw1⟩ := r.get h
  have : its[j]? = some its.toArray[j] := by simp at hj; simp [hj]
  rw [g1] at this
  rw [← Option.some.inj this]
  exact rw1
theorem eqD_items {X : Cx} {pins : List (Addr × Obj)} {s : Shared} {σ : St} {H : Hp} {A : Around} {n : Nat} {xs ys : List V} {js js2 : List Value} (hP : Paired (EqD X.K H n) xs ys) (q1 : Vals xs js) (q2 : Vals ys js2)
    (ih : ∀ x y v u, EqD X.K H n x y → RelV x v → RelV y u → SeqAt.EqAt A s v u true) : ∀ j (j1 : j < js.toArray.size) (j2 : j < js2.toArray.size), SeqAt.EqAt A s js.toArray[j] js2.toArray[j] true := by
  intro j j1 j2
  have m1 := q1.length
  have m2 := q2.length
  have k1 : j < xs.length := by simp at j1; omega
  obtain ⟨y, hy, hd⟩ := Paired.get? hP (List.getElem?_eq_getElem k1)
  exact ih _ _ _ _ hd (val_at q1 (List.getElem?_eq_getElem k1) j1) (val_at q2 hy j2)
theorem eqD_at {X : Cx} {pins : List (Addr × Obj)} {s : Shared} {σ : St} {H : Hp} (I : Inv X pins σ H s) : ∀ (n : Nat) (A : Around), A.units + n < cLine → ∀ x y v u, EqD X.K H n x y → RelV x v → RelV y u → SeqAt.EqAt A s v u true
  | 0, A, hu, x, y, v, u, h, rx, ry => by
    obtain ⟨rfl, f⟩ := h
    have := eqAt_V (A := A) (s := s) rx ry f f
    rw [eqV_refl f] at this
    exact this
  | n + 1, A, hu, x, y, v, u, h, rx, ry => by
    rcases h with ⟨rfl, f⟩ | ⟨a, b, xs, ys, rfl, rfl, ha, hb, hP⟩
    · have := eqAt_V (A := A) (s := s) rx ry f f
      rw [eqV_refl f] at this
      exact this
    · cases rx
      cases ry
      by_cases e : a = b
      · subst e
        exact SeqAt.EqAt.same _
      · obtain ⟨js, q1, pt1, _⟩ := I.tuple ha
        obtain ⟨js2, q2, pt2, _⟩ := I.tuple hb
        have m1 := q1.length
        have m2 := q2.length
        have hl := Paired.length hP
        have R := SeqAt.RcAt.tuples (A := A) (e := fun _ => true) (show s.heap.IsTuple a js.toArray from pt1) (show s.heap.IsTuple b js2.toArray from pt2) (by omega) (eqD_items (X := X) (pins := pins) (σ := σ) hP q1 q2 (eqD_at I n A.in1 (by show A.units + 1 + n < cLine; omega)))
        have e2 : ((List.range (min js.toArray.size js2.toArray.size)).all (fun _ => true) && js.toArray.size == js2.toArray.size) = true := by
          have : js.toArray.size = js2.toArray.size := by simp; omega
          simp [this]
        rw [e2] at R
        exact SeqAt.EqAt.of_refs e R
theorem op_eqD {X : Cx} (n : Nat) (hu : X.A.units + 1 + n < cLine) : OpR X (compareOp .Eq) (fun x y H Q => ∃ a b xs ys, x = .ref a ∧ y = .ref b ∧ SqT X.K H a xs ∧ SqT X.K H b ys ∧ Paired (EqD X.K H n) xs ys ∧ Q (.bl true) H) := by
  intro pins s σ H x y v u Q I rx ry h
  obtain ⟨a, b, xs, ys, rfl, rfl, ha, hb, hP, q⟩ := h
  cases rx
  cases ry
  obtain ⟨its, r1, p1, _⟩ := I.tuple ha
  obtain ⟨its2, r2, p2, _⟩ := I.tuple hb
  have hl1 := r1.length
  have hl2 := r2.length
  have hl := Paired.length hP
  refine SeqAt.eq_tupleAt (e := fun _ => true) (show s.heap.IsTuple a its.toArray from p1) (show s.heap.IsTuple b its2.toArray from p2) (by omega) (eqD_items (X := X) (pins := pins) (σ := σ) hP r1 r2 (eqD_at I n X.A.in1 hu)) ?_
  have e : ((List.range (min its.toArray.size its2.toArray.size)).all (fun _ => true) && its.toArray.size == its2.toArray.size) = true := by
    have : its.toArray.size = its2.toArray.size := by simp; omega
    simp [this]
  rw [e]
  exact ⟨.bl true, H, I, rfl, q⟩
end L2
set_option Elab.async false
set_option linter.all false
set_option maxRecDepth 100000
set_option maxHeartbeats 16000000
namespace K22
open PySem L2 PyProof.Rows
noncomputable def top (i : Nat) : Stmt := PySem.Challenge.pw_bundlehouse_k22_faults_in_a_part.main.body.getD i (.Pass ⟨0, 0, 0, 0⟩)
noncomputable abbrev s_words_of : Stmt := top 1
theorem sc_words_of : FnScope ["row", "kind"] ["row"] (defScope s_words_of) := ⟨rfl, rfl, rfl, by decide +kernel, rfl, by decide +kernel, by decide +kernel⟩
noncomputable abbrev s_pair_words : Stmt := top 2
theorem sc_pair_words : FnScope ["pairs", "words", "given", "own"] ["pairs"] (defScope s_pair_words) := ⟨rfl, rfl, rfl, by decide +kernel, rfl, by decide +kernel, by decide +kernel⟩
noncomputable abbrev s_sum_words : Stmt := top 3
theorem sc_sum_words : FnScope ["terms", "words", "sign", "thing"] ["terms"] (defScope s_sum_words) := ⟨rfl, rfl, rfl, by decide +kernel, rfl, by decide +kernel, by decide +kernel⟩
noncomputable abbrev s_when_words : Stmt := top 4
theorem sc_when_words : FnScope ["when"] ["when"] (defScope s_when_words) := ⟨rfl, rfl, rfl, by decide +kernel, rfl, by decide +kernel, by decide +kernel⟩
noncomputable abbrev s_read_names : Stmt := top 5
theorem sc_read_names : FnScope ["row", "kind"] ["row"] (defScope s_read_names) := ⟨rfl, rfl, rfl, by decide +kernel, rfl, by decide +kernel, by decide +kernel⟩
noncomputable abbrev s_sum_names : Stmt := top 6
theorem sc_sum_names : FnScope ["terms", "first", "names", "place", "term"] ["terms", "first"] (defScope s_sum_names) := ⟨rfl, rfl, rfl, by decide +kernel, rfl, by decide +kernel, by decide +kernel⟩
noncomputable abbrev s_when_names : Stmt := top 7
theorem sc_when_names : FnScope ["row"] ["row"] (defScope s_when_names) := ⟨rfl, rfl, rfl, by decide +kernel, rfl, by decide +kernel, by decide +kernel⟩
noncomputable abbrev s_placed_rows : Stmt := top 9
theorem sc_placed_rows : FnScope ["parts", "found", "part", "rows", "number", "row"] ["parts"] (defScope s_placed_rows) := ⟨rfl, rfl, rfl, by decide +kernel, rfl, by decide +kernel, by decide +kernel⟩
noncomputable abbrev s_given_owns : Stmt := top 10
theorem sc_given_owns : FnScope ["parts", "owns", "part", "number", "row"] ["parts"] (defScope s_given_owns) := ⟨rfl, rfl, rfl, by decide +kernel, rfl, by decide +kernel, by decide +kernel⟩
noncomputable abbrev s_links : Stmt := top 11
theorem sc_links : FnScope ["parts", "owns", "onward", "part", "number", "row", "given", "own"] ["parts"] (defScope s_links) := ⟨rfl, rfl, rfl, by decide +kernel, rfl, by decide +kernel, by decide +kernel⟩
noncomputable abbrev s_makers : Stmt := top 12
theorem sc_makers : FnScope ["parts", "found", "onward", "start", "way", "here", "name"] ["parts"] (defScope s_makers) := ⟨rfl, rfl, rfl, by decide +kernel, rfl, by decide +kernel, by decide +kernel⟩
noncomputable abbrev s_made : Stmt := top 13
theorem sc_made : FnScope ["parts", "found", "part", "number", "row"] ["parts"] (defScope s_made) := ⟨rfl, rfl, rfl, by decide +kernel, rfl, by decide +kernel, by decide +kernel⟩
noncomputable abbrev s_run : Stmt := top 15
theorem sc_run : FnScope ["parts", "root", "numbers"] ["parts", "root", "numbers"] (defScope s_run) := ⟨rfl, rfl, rfl, by decide +kernel, rfl, by decide +kernel, by decide +kernel⟩
noncomputable abbrev s_Walk_loads_of : Stmt := inClass (top 16) 2
theorem sc_Walk_loads_of : FnScope ["self", "part"] ["self", "part"] (defScope s_Walk_loads_of) := ⟨rfl, rfl, rfl, by decide +kernel, rfl, by decide +kernel, by decide +kernel⟩
noncomputable abbrev s_Walk_ahead_of : Stmt := inClass (top 16) 3
theorem sc_Walk_ahead_of : FnScope ["self", "root"] ["self", "root"] (defScope s_Walk_ahead_of) := ⟨rfl, rfl, rfl, by decide +kernel, rfl, by decide +kernel, by decide +kernel⟩
noncomputable abbrev s_Walk_go : Stmt := inClass (top 16) 4
theorem sc_Walk_go : FnScope ["self", "root", "numbers", "going"] ["self", "root", "numbers"] (defScope s_Walk_go) := ⟨rfl, rfl, rfl, by decide +kernel, rfl, by decide +kernel, by decide +kernel⟩
noncomputable abbrev s_PartsWalk___init__ : Stmt := inClass (top 17) 0
theorem sc_PartsWalk___init__ : FnScope ["self", "parts"] ["self", "parts"] (defScope s_PartsWalk___init__) := ⟨rfl, rfl, rfl, by decide +kernel, rfl, by decide +kernel, by decide +kernel⟩
noncomputable abbrev s_PartsWalk_rows_of : Stmt := inClass (top 17) 1
theorem sc_PartsWalk_rows_of : FnScope ["self", "part"] ["self", "part"] (defScope s_PartsWalk_rows_of) := ⟨rfl, rfl, rfl, by decide +kernel, rfl, by decide +kernel, by decide +kernel⟩
noncomputable abbrev s_PartsWalk_key_of : Stmt := inClass (top 17) 2
theorem sc_PartsWalk_key_of : FnScope ["self", "part", "name"] ["self", "part", "name"] (defScope s_PartsWalk_key_of) := ⟨rfl, rfl, rfl, by decide +kernel, rfl, by decide +kernel, by decide +kernel⟩
noncomputable abbrev s_Going___init__ : Stmt := inClass (top 18) 0
theorem sc_Going___init__ : FnScope ["self", "walk", "numbers"] ["self", "walk", "numbers"] (defScope s_Going___init__) := ⟨rfl, rfl, rfl, by decide +kernel, rfl, by decide +kernel, by decide +kernel⟩
noncomputable abbrev s_Going_load : Stmt := inClass (top 18) 1
theorem sc_Going_load : FnScope ["self", "packs", "pack"] ["self", "packs"] (defScope s_Going_load) := ⟨rfl, rfl, rfl, by decide +kernel, rfl, by decide +kernel, by decide +kernel⟩
noncomputable abbrev s_Going_begin : Stmt := inClass (top 18) 2
theorem sc_Going_begin : FnScope ["self", "part", "place", "number", "row"] ["self", "part"] (defScope s_Going_begin) := ⟨rfl, rfl, rfl, by decide +kernel, rfl, by decide +kernel, by decide +kernel⟩
noncomputable abbrev s_Going_go_on : Stmt := inClass (top 18) 3
theorem sc_Going_go_on : FnScope ["self", "step"] ["self"] (defScope s_Going_go_on) := ⟨rfl, rfl, rfl, by decide +kernel, rfl, by decide +kernel, by decide +kernel⟩
noncomputable abbrev s_Going_do_row : Stmt := inClass (top 18) 4
theorem sc_Going_do_row : FnScope ["self", "part", "where", "row", "word"] ["self", "part", "where", "row"] (defScope s_Going_do_row) := ⟨rfl, rfl, rfl, by decide +kernel, rfl, by decide +kernel, by decide +kernel⟩
noncomputable abbrev s_Going_is_off : Stmt := inClass (top 18) 5
theorem sc_Going_is_off : FnScope ["self", "part", "row", "key"] ["self", "part", "row"] (defScope s_Going_is_off) := ⟨rfl, rfl, rfl, by decide +kernel, rfl, by decide +kernel, by decide +kernel⟩
noncomputable abbrev s_Going_early_word : Stmt := inClass (top 18) 6
theorem sc_Going_early_word : FnScope ["self", "part", "row", "word", "name"] ["self", "part", "row"] (defScope s_Going_early_word) := ⟨rfl, rfl, rfl, by decide +kernel, rfl, by decide +kernel, by decide +kernel⟩
noncomputable abbrev s_Going_enter : Stmt := inClass (top 18) 7
theorem sc_Going_enter : FnScope ["self", "kind", "part"] ["self", "kind", "part"] (defScope s_Going_enter) := ⟨rfl, rfl, rfl, by decide +kernel, rfl, by decide +kernel, by decide +kernel⟩
noncomputable abbrev s_Going_do_work : Stmt := inClass (top 18) 8
theorem sc_Going_do_work : FnScope ["self", "part", "where", "row", "kind", "value"] ["self", "part", "where", "row"] (defScope s_Going_do_work) := ⟨rfl, rfl, rfl, by decide +kernel, rfl, by decide +kernel, by decide +kernel⟩
noncomputable abbrev s_Going_give : Stmt := inClass (top 18) 9
theorem sc_Going_give : FnScope ["self", "part", "name", "value"] ["self", "part", "name", "value"] (defScope s_Going_give) := ⟨rfl, rfl, rfl, by decide +kernel, rfl, by decide +kernel, by decide +kernel⟩
noncomputable abbrev s_Going_next_told : Stmt := inClass (top 18) 10
theorem sc_Going_next_told : FnScope ["self"] ["self"] (defScope s_Going_next_told) := ⟨rfl, rfl, rfl, by decide +kernel, rfl, by decide +kernel, by decide +kernel⟩
noncomputable abbrev s_Going_value_of : Stmt := inClass (top 18) 11
theorem sc_Going_value_of : FnScope ["self", "part", "terms", "total", "sign", "thing"] ["self", "part", "terms"] (defScope s_Going_value_of) := ⟨rfl, rfl, rfl, by decide +kernel, rfl, by decide +kernel, by decide +kernel⟩
noncomputable abbrev s_Going_thing_value : Stmt := inClass (top 18) 12
theorem sc_Going_thing_value : FnScope ["self", "part", "thing"] ["self", "part", "thing"] (defScope s_Going_thing_value) := ⟨rfl, rfl, rfl, by decide +kernel, rfl, by decide +kernel, by decide +kernel⟩
noncomputable abbrev s_law_cell_at : Stmt := top 20
theorem sc_law_cell_at : FnScope ["_law_script", "_law_k"] ["_law_script", "_law_k"] (defScope s_law_cell_at) := ⟨rfl, rfl, rfl, by decide +kernel, rfl, by decide +kernel, by decide +kernel⟩
noncomputable abbrev s_law_whole : Stmt := top 21
theorem sc_law_whole : FnScope ["_law_found"] ["_law_found"] (defScope s_law_whole) := ⟨rfl, rfl, rfl, by decide +kernel, rfl, by decide +kernel, by decide +kernel⟩
noncomputable abbrev s_law_name : Stmt := top 22
theorem sc_law_name : FnScope ["_law_cell", "_law_k", "_law_base", "_law_at"] ["_law_cell", "_law_k"] (defScope s_law_name) := ⟨rfl, rfl, rfl, by decide +kernel, rfl, by decide +kernel, by decide +kernel⟩
noncomputable abbrev s_law_number : Stmt := top 23
theorem sc_law_number : FnScope ["_law_cell"] ["_law_cell"] (defScope s_law_number) := ⟨rfl, rfl, rfl, by decide +kernel, rfl, by decide +kernel, by decide +kernel⟩
noncomputable abbrev s_law_kinds : Stmt := top 24
theorem sc_law_kinds : FnScope ["_law_found", "_law_deed"] ["_law_found"] (defScope s_law_kinds) := ⟨rfl, rfl, rfl, by decide +kernel, rfl, by decide +kernel, by decide +kernel⟩
noncomputable abbrev s_law_terms : Stmt := top 25
theorem sc_law_terms : FnScope ["_law_cells", "_law_form", "_law_many", "_law_terms_here", "_law_cell", "_law_sign"] ["_law_cells", "_law_form", "_law_many"] (defScope s_law_terms) := ⟨rfl, rfl, rfl, by decide +kernel, rfl, by decide +kernel, by decide +kernel⟩
noncomputable abbrev s_law_row : Stmt := top 26
theorem sc_law_row : FnScope ["_law_script", "_law_form", "_law_many", "_law_kind", "_law_terms_here", "_law_when"] ["_law_script", "_law_form", "_law_many"] (defScope s_law_row) := ⟨rfl, rfl, rfl, by decide +kernel, rfl, by decide +kernel, by decide +kernel⟩
noncomputable abbrev s_law_words : Stmt := top 27
theorem sc_law_words : FnScope ["_law_row_here", "_law_terms_here", "_law_first", "_law_found"] ["_law_row_here"] (defScope s_law_words) := ⟨rfl, rfl, rfl, by decide +kernel, rfl, by decide +kernel, by decide +kernel⟩
noncomputable abbrev s_law_total : Stmt := top 28
theorem sc_law_total : FnScope ["_law_terms_here", "_law_values", "_law_total_here", "_law_sign", "_law_thing"] ["_law_terms_here", "_law_values"] (defScope s_law_total) := ⟨rfl, rfl, rfl, by decide +kernel, rfl, by decide +kernel, by decide +kernel⟩
noncomputable abbrev s_law_done : Stmt := top 29
theorem sc_law_done : FnScope ["_law_row_here", "_law_values", "_law_place", "_law_due", "_law_number_here", "_law_when", "_law_word", "_law_name_here"] ["_law_row_here", "_law_values", "_law_place", "_law_due", "_law_number_here"] (defScope s_law_done) := ⟨rfl, rfl, rfl, by decide +kernel, rfl, by decide +kernel, by decide +kernel⟩
noncomputable abbrev s_law : Stmt := top 30
theorem sc_law : FnScope ["_law_script", "_law_form", "_law_many", "_law_place", "_law_row_here", "_law_told", "_law_rows", "_law_last", "_law_number_here", "_law_due", "_law_values", "_law_fault", "_law_k", "_law_parts", "_law_found"] ["_law_script"] (defScope s_law) := ⟨rfl, rfl, rfl, by decide +kernel, rfl, by decide +kernel, by decide +kernel⟩
structure Txt (K : PySem.W.Frag) (mg : Str → Option Value) : Prop where
  n_len : mg "len" = none
  n_range : mg "range" = none
  n_str : mg "str" = none
  n_tuple : mg "tuple" = none
  n_list : mg "list" = none
  n_dict : mg "dict" = none
  n_enumerate : mg "enumerate" = none
  n_isinstance : mg "isinstance" = none
  n_reversed : mg "reversed" = none
  n_int : mg "int" = none
  n_bool : mg "bool" = none
  d_words_of : HasDef K mg "words_of" s_words_of
  d_pair_words : HasDef K mg "pair_words" s_pair_words
  d_sum_words : HasDef K mg "sum_words" s_sum_words
  d_when_words : HasDef K mg "when_words" s_when_words
  d_read_names : HasDef K mg "read_names" s_read_names
  d_sum_names : HasDef K mg "sum_names" s_sum_names
  d_when_names : HasDef K mg "when_names" s_when_names
  d_placed_rows : HasDef K mg "placed_rows" s_placed_rows
  d_given_owns : HasDef K mg "given_owns" s_given_owns
  d_links : HasDef K mg "links" s_links
  d_makers : HasDef K mg "makers" s_makers
  d_made : HasDef K mg "made" s_made
  d_run : HasDef K mg "run" s_run
  d_law_cell_at : HasDef K mg "_law_cell_at" s_law_cell_at
  d_law_whole : HasDef K mg "_law_whole" s_law_whole
  d_law_name : HasDef K mg "_law_name" s_law_name
  d_law_number : HasDef K mg "_law_number" s_law_number
  d_law_kinds : HasDef K mg "_law_kinds" s_law_kinds
  d_law_terms : HasDef K mg "_law_terms" s_law_terms
  d_law_row : HasDef K mg "_law_row" s_law_row
  d_law_words : HasDef K mg "_law_words" s_law_words
  d_law_total : HasDef K mg "_law_total" s_law_total
  d_law_done : HasDef K mg "_law_done" s_law_done
structure Tc (K : PySem.W.Frag) (mg : Str → Option Value) (CP CG : Addr) : Prop extends Txt K mg where
  c_PartsWalk : Cls K CP
  c_Going : Cls K CG
  g_PartsWalk : mg "PartsWalk" = some (.ref CP)
  g_Going : mg "Going" = some (.ref CG)
  nG_walk : NoAttr K CG "walk"
  nG_numbers : NoAttr K CG "numbers"
  nG_taken : NoAttr K CG "taken"
  nG_begun : NoAttr K CG "begun"
  nG_loaded : NoAttr K CG "loaded"
  nG_given : NoAttr K CG "given"
  nG_waiting : NoAttr K CG "waiting"
  nG_trace : NoAttr K CG "trace"
  nG_fault : NoAttr K CG "fault"
  nP_rows : NoAttr K CP "rows"
  nP_makers : NoAttr K CP "makers"
  m_load : HasM K CG "load" "Going.load" s_Going_load
  m_begin : HasM K CG "begin" "Going.begin" s_Going_begin
  m_go_on : HasM K CG "go_on" "Going.go_on" s_Going_go_on
  m_do_row : HasM K CG "do_row" "Going.do_row" s_Going_do_row
  m_is_off : HasM K CG "is_off" "Going.is_off" s_Going_is_off
  m_early_word : HasM K CG "early_word" "Going.early_word" s_Going_early_word
  m_enter : HasM K CG "enter" "Going.enter" s_Going_enter
  m_do_work : HasM K CG "do_work" "Going.do_work" s_Going_do_work
  m_give : HasM K CG "give" "Going.give" s_Going_give
  m_next_told : HasM K CG "next_told" "Going.next_told" s_Going_next_told
  m_value_of : HasM K CG "value_of" "Going.value_of" s_Going_value_of
  m_thing_value : HasM K CG "thing_value" "Going.thing_value" s_Going_thing_value
  m_rows_of : HasM K CP "rows_of" "PartsWalk.rows_of" s_PartsWalk_rows_of
  m_key_of : HasM K CP "key_of" "PartsWalk.key_of" s_PartsWalk_key_of
  m_loads_of : HasM K CP "loads_of" "Walk.loads_of" s_Walk_loads_of
  m_ahead_of : HasM K CP "ahead_of" "Walk.ahead_of" s_Walk_ahead_of
  m_go : HasM K CP "go" "Walk.go" s_Walk_go
  i_PartsWalk : HasI K CP "PartsWalk.__init__" s_PartsWalk___init__
  i_Going : HasI K CG "Going.__init__" s_Going___init__
theorem parts_pairs {K : PySem.W.Frag} {H : Hp} : ∀ {vs : List V} {ps : List Pt}, Paired (PartAt H) vs ps → ∃ qs : List (Str × V), Paired (fun v (p : Str × V) => ∃ t, v = .ref t ∧ SqT K H t [.str p.1, p.2]) vs qs ∧ qs.map (·.1) = ps.map (·.1) ∧ ∀ n rs, (n, rs) ∈ ps → ∃ u ws, (n, V.ref u) ∈ qs ∧ H u = some (.tup ws) ∧ RowsAt H ws rs
  | _, _, .nil => ⟨[], .nil, rfl, fun n rs h => by simp at h⟩
  | _, _, .cons (b := p) ⟨t, u, ws, e, h1, h2, h3⟩ hr => by
    obtain ⟨qs, g1, g2, g3⟩ := parts_pairs (K := K) hr
    refine ⟨(p.1, .ref u) :: qs, .cons ⟨t, e, SqT.of h1⟩ g1, by rw [List.map_cons, List.map_cons, g2], fun n rs h => ?_⟩
    rcases List.mem_cons.mp h with z | z
    · rw [← z] at h1 h3 ⊢
      exact ⟨u, ws, List.mem_cons_self, h2, h3⟩
    · obtain ⟨u', ws', k1, k2⟩ := g3 n rs z
      exact ⟨u', ws', List.mem_cons_of_mem _ k1, k2⟩
theorem Tups.dK {H : Hp} {l : Addr} {kvs kvs' : List (Key × V)} (h : H l = some (.dK kvs)) : Tups H (upd H l (.dK kvs')) := fun b zs q => by
  rw [upd_ne (ne_of q h (by intro z; cases z))]
  exact q
section
variable {P : Program} {w : World} {K : PySem.W.Frag} {mg : Str → Option Value} {base : Heap} {CP CG : Addr}
theorem inV_strs (x : Str) : ∀ l : List Str, inV (.str x) (l.map V.str) = decide (x ∈ l)
  | [] => by simp [inV]
  | a :: r => by
    have ih := inV_strs x r
    unfold inV at ih ⊢
    rw [List.map_cons, List.any_cons, ih]
    by_cases e : a = x
    · subst e; simp [eqV]
    · have h2 : ¬ x = a := fun z => e z.symm
      simp [eqV, e, h2]
noncomputable def spLaw (K : PySem.W.Frag) : Sp := fun vs H Q _ => ∃ (a : Addr) (ns : List Int), vs = [.ref a] ∧ SqL K H a (ns.map V.int) ∧ ns.length ≤ 63 ∧ ∀ H', Q (.bl true) H'
theorem nodup_lenG {α : Type} [DecidableEq α] : ∀ (l N : List α), l.Nodup → (∀ x ∈ l, x ∈ N) → l.length ≤ N.length
  | [], N, _, _ => Nat.zero_le _
  | a :: r, N, hn, hs => by
    rw [List.nodup_cons] at hn
    have ha : a ∈ N := hs a List.mem_cons_self
    have h1 := nodup_lenG r (N.erase a) hn.2 fun x hx => (List.mem_erase_of_ne (fun z => hn.1 (by rw [← z]; exact hx))).mpr (hs x (List.mem_cons_of_mem _ hx))
    rw [List.length_erase_of_mem ha] at h1
    have : 0 < N.length := List.length_pos_of_mem ha
    simp only [List.length_cons]; omega
theorem setD_val (l : List Str) (x : Str) : valV (setD l) (Sum.inr x) = if x ∈ l then some (.bl true) else none := by
  induction l with
  | nil => rfl
  | cons a r ih =>
    have e : setD (a :: r) = (Sum.inr a, .bl true) :: setD r := rfl
    rw [e]
    by_cases h : a = x
    · subst h
      rw [valV_pos rfl, if_pos List.mem_cons_self]
    · rw [valV_neg (fun z => h (Sum.inr.inj z)), ih]
      by_cases hm : x ∈ r
      · rw [if_pos hm, if_pos (List.mem_cons_of_mem _ hm)]
      · rw [if_neg hm, if_neg (fun z => by rcases List.mem_cons.mp z with y | y; exact h y.symm; exact hm y)]
theorem setD_some (l : List Str) (x : Str) : (valV (setD l) (Sum.inr x)).isSome = decide (x ∈ l) := by
  rw [setD_val]
  by_cases h : x ∈ l
  · rw [if_pos h, decide_eq_true h]; rfl
  · rw [if_neg h, decide_eq_false h]; rfl
theorem addN_mem (l : List Str) (x y : Str) : y ∈ addN l x ↔ y ∈ l ∨ y = x := by
  unfold addN
  by_cases h : x ∈ l
  · rw [if_pos h]
    exact ⟨.inl, fun z => by rcases z with z | z; exact z; rw [z]; exact h⟩
  · rw [if_neg h, List.mem_append, List.mem_singleton]
structure PsFit (ps : List Pt) : Prop where
  nd : (ps.map (·.1)).Nodup
  hi : ps.length ≤ 24
  rows : ∀ pt ∈ ps, pt.2.length ≤ 40
theorem g_while {c : TT} {tb R : TS} {D : Ends} {N : L2.St → Hp → Prop} {i : Nat} {v : V} {σ : L2.St} {H : Hp} (e : N = tSeq (tWhile c tb) R D) (h : tWhile c tb { D with nx := R D } (σ.set i (some v)) H) : gName i v σ H N := by
  show N (σ.set i (some v)) H
  rw [e]
  exact h
noncomputable abbrev Pl := Str × Nat × Rw
noncomputable def rowsPl (n : Str) (rs : List Rw) : List Pl := rs.zipIdx.map fun x => (n, x.2, x.1)
theorem rowsPl_snoc (n : Str) (rs : List Rw) (rw : Rw) : rowsPl n (rs ++ [rw]) = rowsPl n rs ++ [(n, rs.length, rw)] := by
  unfold rowsPl
  rw [List.zipIdx_append, List.map_append]
  simp
theorem rowsPl_len (n : Str) (rs : List Rw) : (rowsPl n rs).length = rs.length := by unfold rowsPl; simp
noncomputable def plsOf (ps : List Pt) : List Pl := ps.flatMap fun pt => rowsPl pt.1 pt.2
theorem plsOf_snoc (ps : List Pt) (pt : Pt) : plsOf (ps ++ [pt]) = plsOf ps ++ rowsPl pt.1 pt.2 := by
  unfold plsOf
  rw [List.flatMap_append]
  simp
theorem plsOf_len : ∀ {ps : List Pt}, (∀ pt ∈ ps, pt.2.length ≤ 40) → (plsOf ps).length ≤ 40 * ps.length
  | [], _ => by simp [plsOf]
  | pt :: r, h => by
    have h1 := plsOf_len (ps := r) fun p hp => h p (List.mem_cons_of_mem _ hp)
    have h2 := h pt List.mem_cons_self
    have e : plsOf (pt :: r) = rowsPl pt.1 pt.2 ++ plsOf r := rfl
    rw [e, List.length_append, rowsPl_len, List.length_cons]
    omega
noncomputable def PlAt (H : Hp) (v : V) (x : Pl) : Prop := ∃ t r, v = .ref t ∧ H t = some (.tup [.str x.1, .int (x.2.1 : Int), .ref r]) ∧ RowAt H r x.2.2
theorem PlAt.mono {H H' : Hp} (s : Tups H H') {v : V} {x : Pl} (h : PlAt H v x) : PlAt H' v x := by
  obtain ⟨t, r, e, h1, h2⟩ := h
  exact ⟨t, r, e, s _ _ h1, h2.mono s⟩
noncomputable def spPlaced : Sp := fun vs H Q _ => ∃ (a : Addr) (ps : List Pt), vs = [.ref a] ∧ PartsF H a ps ∧ PsFit ps ∧ ∀ (p : Addr) (vs : List V) (H' : Hp), Same H H' → H' p = some (.tup vs) → Paired (PlAt H') vs (plsOf ps) → Q (.ref p) H'
theorem ok_placed (T : Txt K mg) : L2.Cl P w K mg base 1 "placed_rows" ["parts"] spPlaced := by
  refine Cl.of T.d_placed_rows sc_placed_rows (fun vs H Q E h => ?_) (fun _ _ _ _ _ _ us hl => len1 us hl (fun _ => rfl)) (fun fa cdv A outer s H vs Q E hr h => ?_)
  · obtain ⟨a, ps, rfl, _⟩ := h
    rfl
  · obtain ⟨a, ps, rfl, hpf, hfit, q⟩ := h
    obtain ⟨o, vs, ha, ho, hps⟩ := id hpf
    have sqa : ∀ {H2 : Hp}, Same H H2 → SqT K H2 a vs := fun s2 => .inl (.inr ⟨o, s2 _ _ ha⟩)
    have hvl : vs.length = ps.length := Paired.length hps
    have hhi := hfit.hi
    refine ⟨_, (pss_cons (ps_set (i := 1) sc_placed_rows.nd rfl (Or.inl rfl) (pe_lst pa_nil))
      (pss_cons (ps_for PassesOwn.never rfl (pi_tup (pv 0)) (pg_tup rfl (pgs_cons (pg_name (i := 2) sc_placed_rows.nd rfl (Or.inl rfl)) (pgs_cons (pg_name (i := 3) sc_placed_rows.nd rfl (Or.inl rfl)) pgs_nil)))
        (pss_one (ps_for PassesOwn.never rfl (pi_enumT (by rfl) T.n_enumerate (pa_cons (pv 3) pa_nil)) (pg_tup rfl (pgs_cons (pg_name (i := 4) sc_placed_rows.nd rfl (Or.inl rfl)) (pgs_cons (pg_name (i := 5) sc_placed_rows.nd rfl (Or.inl rfl)) pgs_nil)))
          (pss_one (ps_expr (pe_bm PySem.F.plainAttrs_list PySem.F.slot_list_append PySem.F.type_list_append mt_append (pv 1) (pa_cons (pe_tup (pa_cons (pv 2) (pa_cons (pv 4) (pa_cons (pv 5) pa_nil)))) pa_nil)))))))
      (pss_one (ps_ret (pe_callTy call_tuple_of (by rfl) T.n_tuple boot_tuple (pa_cons (pv 1) pa_nil)))))), ?_⟩
    refine ⟨(by show 0 ≤ sizeLine; decide), fun l gl => ?_⟩
    have s1 : Same H (upd H l (.lst [])) := (Same.refl H).new gl
    refine ⟨_, rfl, a, rfl, ⟨_, sqa s1⟩, for_tup (K := K) (a := a) (xs := vs) (fun i σ H2 => ∃ (us : List V) (v2 v3 v4 v5 : Option V), σ = [some (.ref a), some (.ref l), v2, v3, v4, v5] ∧ Same H H2 ∧ H2 l = some (.lst us) ∧ Paired (PlAt H2) us (plsOf (ps.take i)))
      ⟨[], none, none, none, none, rfl, s1, upd_same, by rw [List.take_zero]; exact .nil⟩ (fun i σ H2 _ ⟨_, _, _, _, _, _, s2, _⟩ => sqa s2) ?_ ?_⟩
    · rintro i y σ H2 hy ⟨us, v2, v3, v4, v5, rfl, s2, hl2, hus⟩
      obtain ⟨pt, hpt, t, u, ws, ey, ht, hu', hrs⟩ := Paired.get? hps hy
      subst ey
      have hi : i < vs.length := (List.getElem?_eq_some_iff.mp hy).1
      have hr40 := hfit.rows _ (List.mem_of_getElem? hpt)
      have hpl : (plsOf (ps.take i)).length ≤ 40 * 23 := by
        have h1 := plsOf_len (ps := ps.take i) fun p hp => hfit.rows p (List.mem_of_mem_take hp)
        rw [List.length_take] at h1
        omega
      have hwl : ws.length = pt.2.length := Paired.length hrs
      refine ⟨t, _, rfl, SqT.of (s2 _ _ ht), rfl, _, _, rfl, _, _, rfl, rfl, ?_⟩
      refine ⟨_, rfl, u, rfl, ⟨_, SqT.of (s2 _ _ hu')⟩, for_enum (K := K) (a := u) (xs := ws) (fun j σ H3 => ∃ (us : List V) (v4 v5 : Option V), σ = [some (.ref a), some (.ref l), some (.str pt.1), some (.ref u), v4, v5] ∧ Same H H3 ∧ H3 l = some (.lst us) ∧ Paired (PlAt H3) us (plsOf (ps.take i) ++ rowsPl pt.1 (pt.2.take j)))
        ⟨us, _, _, rfl, s2, hl2, by rw [List.take_zero]; show Paired _ us (plsOf (ps.take i) ++ []); rw [List.append_nil]; exact hus⟩ (fun j σ H3 _ ⟨_, _, _, _, s3, _⟩ => SqT.of (s3 _ _ hu')) ?_ ?_⟩
      · rintro j y p σ H3 hy3 ⟨us3, w4, w5, rfl, s3, hl3, hus3⟩ hp
        obtain ⟨rw, hrw, r, er, hra⟩ := Paired.get? hrs hy3
        subst er
        have hj : j < pt.2.length := (List.getElem?_eq_some_iff.mp hrw).1
        have hul : us3.length = (plsOf (ps.take i)).length + j := by
          rw [Paired.length hus3, List.length_append, rowsPl_len, List.length_take]; omega
        have s4 : Same H3 (upd H3 p (.tup [.int (j : Int), .ref r])) := (Same.refl H3).new hp
        refine ⟨p, _, rfl, SqT.of upd_same, rfl, _, _, rfl, _, _, rfl, rfl, ?_⟩
        refine ⟨_, rfl, .inl ⟨rfl, _, SqL.of (s4 _ _ hl3)⟩, _, rfl, _, rfl, _, rfl, (by show 3 ≤ sizeLine; decide), fun c gc => ?_⟩
        have s5 := s4.new (o := .tup [.str pt.1, .int (j : Int), .ref r]) gc
        refine ⟨l, _, _, rfl, rfl, s5 _ _ hl3, small1000 (by omega), ?_⟩
        have T5 := s5.tups.trans (Tups.lst (ys := us3 ++ [.ref c]) (s5 _ _ hl3))
        have hne : c ≠ l := fun z => by rw [z] at gc; rw [s4 _ _ hl3] at gc; cases gc
        refine ⟨us3 ++ [.ref c], _, _, rfl, (s3.trans s5).put gl, upd_same, ?_⟩
        rw [take_succ_get hrw, rowsPl_snoc, ← List.append_assoc]
        refine Paired.snoc (Paired.mapP hus3 fun _ _ z => z.mono T5) ⟨c, r, rfl, ?_, ((hra.mono s3.tups).mono T5)⟩
        rw [upd_ne hne, upd_same]
        have : (pt.2.take j).length = j := by rw [List.length_take]; omega
        simp only [this]
      · rintro σ H3 ⟨us3, w4, w5, rfl, s3, hl3, hus3⟩
        rw [hwl, List.take_length] at hus3
        refine ⟨us3, _, _, _, _, rfl, s3, hl3, ?_⟩
        rw [take_succ_get hpt, plsOf_snoc]
        exact hus3
    · rintro σ H2 ⟨us, v2, v3, v4, v5, rfl, s2, hl2, hus⟩
      rw [hvl, List.take_length] at hus
      refine ⟨_, rfl, l, _, rfl, .inl ⟨SqL.of hl2, fun p gp => ?_⟩⟩
      have s3 : Same H2 (upd H2 p (.tup us)) := (Same.refl H2).new gp
      exact q p us _ (s2.trans s3) upd_same (Paired.mapP hus fun _ _ z => z.mono s3.tups)
noncomputable def ownOf : Rw → Option Str
  | .set o _ => some o
  | .take o => some o
  | _ => none
noncomputable def key2 (k : Str × Str) : List Key := [Sum.inr k.1, Sum.inr k.2]
theorem key2_inj {a b : Str × Str} (h : key2 a = key2 b) : a = b := by
  unfold key2 at h
  simp only [List.cons.injEq, Sum.inr.injEq, and_true] at h
  exact Prod.ext h.1 h.2
theorem Tups.dT {H : Hp} {l : Addr} {kvs kvs' : List (List Key × V)} (h : H l = some (.dT kvs)) : Tups H (upd H l (.dT kvs')) := fun b zs q => by
  rw [upd_ne (ne_of q h (by intro z; cases z))]
  exact q
theorem putK_new {κ : Type} [DecidableEq κ] {kvs : List (κ × V)} {k : κ} {v : V} (h : k ∉ kvs.map (·.1)) : putK kvs k v = kvs ++ [(k, v)] := by
  unfold putK
  rw [if_neg]
  intro z
  obtain ⟨p, hp, e⟩ := List.any_eq_true.mp z
  exact h (by rw [← of_decide_eq_true e]; exact List.mem_map_of_mem (f := (·.1)) hp)
theorem row_own {H : Hp} {r : Addr} {rw : Rw} (h : RowAt H r rw) : (∃ o rest, (kindS rw = "set" ∨ kindS rw = "take") ∧ ownOf rw = some o ∧ H r = some (.tup (.str (kindS rw) :: .str o :: rest))) ∨ (¬ (kindS rw = "set" ∨ kindS rw = "take") ∧ ownOf rw = none) := by
  cases rw with
  | set o ts => obtain ⟨t, h1, h2⟩ := h; exact .inl ⟨o, _, .inl rfl, rfl, h1⟩
  | take o => exact .inl ⟨o, _, .inr rfl, rfl, h⟩
  | _ => exact .inr ⟨by simp only [kindS]; decide +kernel, rfl⟩
theorem inV2 (k a b : Str) : inV (.str k) [.str a, .str b] = decide (k = a ∨ k = b) := by
  have := inV_strs k [a, b]
  simpa using this
noncomputable abbrev Kk := Str × Str
noncomputable def mlsOf (pls : List Pl) : List (Kk × (Str × Nat)) := pls.filterMap fun x => (ownOf x.2.2).map fun o => ((x.1, o), (x.1, x.2.1))
noncomputable def giveOf : Rw → Option (Str × Str)
  | .give o g => some (o, g)
  | _ => none
noncomputable def glsOf (pls : List Pl) : List (Kk × Str) := pls.filterMap fun x => (giveOf x.2.2).map fun q => ((x.1, q.2), q.1)
noncomputable def pairsOf : Rw → List (Str × (Str × Str))
  | .bring m ps => ps.map fun q => (m, q)
  | _ => []
noncomputable def blsOf (pls : List Pl) : List (Kk × Kk) := pls.flatMap fun x => (pairsOf x.2.2).map fun q => ((x.1, q.2.2), (q.1, q.2.1))
noncomputable def gget (gls : List (Kk × Str)) (k : Kk) : Str := ((gls.find? fun y => decide (y.1 = k)).map (·.2)).getD ""
theorem gget_eq : ∀ {gls : List (Kk × Str)} {k : Kk} {o : Str}, (gls.map (·.1)).Nodup → (k, o) ∈ gls → gget gls k = o
  | [], k, o, _, h => by simp at h
  | y :: r, k, o, hn, h => by
    rw [List.map_cons, List.nodup_cons] at hn
    rcases List.mem_cons.mp h with e | e
    · unfold gget
      rw [List.find?_cons_of_pos (by rw [← e]; simp), ← e]; rfl
    · have hne : ¬ y.1 = k := fun z => hn.1 (by rw [z]; exact List.mem_map_of_mem (f := (·.1)) e)
      have := gget_eq hn.2 e
      unfold gget at this ⊢
      rw [List.find?_cons_of_neg (by simpa using hne)]
      exact this
noncomputable def llsOf (pls : List Pl) : List (Kk × Kk) := (blsOf pls).map fun x => (x.1, (x.2.1, gget (glsOf pls) x.2))
inductive Mk (mls : List (Kk × (Str × Nat))) (ls : List (Kk × Kk)) : Kk → Str × Nat → Prop where
  | base {k : Kk} {p : Str × Nat} : (k, p) ∈ mls → Mk mls ls k p
  | step {k k' : Kk} {p : Str × Nat} : (k, k') ∈ ls → Mk mls ls k' p → Mk mls ls k p
structure NetOk (pls : List Pl) : Prop where
  keys : ((mlsOf pls).map (·.1) ++ (blsOf pls).map (·.1)).Nodup
  gk : ((glsOf pls).map (·.1)).Nodup
  gv : ∀ x ∈ blsOf pls, ∃ o, (x.2, o) ∈ glsOf pls
  ow : ∀ y ∈ glsOf pls, (y.1.1, y.2) ∈ (mlsOf pls).map (·.1) ++ (blsOf pls).map (·.1)
  rk : ∃ r : Kk → Nat, ∀ x ∈ llsOf pls, r x.2 < r x.1
  len : pls.length ≤ 960
  brs : ∀ x ∈ pls, (pairsOf x.2.2).length ≤ 6
theorem lls_keys (pls : List Pl) : (llsOf pls).map (·.1) = (blsOf pls).map (·.1) := by
  unfold llsOf
  rw [List.map_map]
  rfl
theorem NetOk.tgt {pls : List Pl} (n : NetOk pls) {x : Kk × Kk} (hx : x ∈ llsOf pls) : x.2 ∈ (mlsOf pls).map (·.1) ∨ x.2 ∈ (llsOf pls).map (·.1) := by
  obtain ⟨y, hy, e⟩ := List.mem_map.mp hx
  obtain ⟨o, ho⟩ := n.gv y hy
  have h1 := gget_eq n.gk ho
  have h2 := n.ow _ ho
  rw [← e]
  show (y.2.1, gget (glsOf pls) y.2) ∈ _ ∨ _
  rw [h1, lls_keys]
  exact List.mem_append.mp h2
theorem NetOk.mkNodup {pls : List Pl} (n : NetOk pls) : ((mlsOf pls).map (·.1)).Nodup := (List.nodup_append.mp n.keys).1
theorem NetOk.lkNodup {pls : List Pl} (n : NetOk pls) : ((llsOf pls).map (·.1)).Nodup := by rw [lls_keys]; exact (List.nodup_append.mp n.keys).2.1
theorem NetOk.apart {pls : List Pl} (n : NetOk pls) {k : Kk} (h1 : k ∈ (mlsOf pls).map (·.1)) (h2 : k ∈ (llsOf pls).map (·.1)) : False := (List.nodup_append.mp n.keys).2.2 k h1 k (by rw [← lls_keys]; exact h2) rfl
theorem fst_uniq {α β : Type} : ∀ {l : List (α × β)} {k : α} {a b : β}, (l.map (·.1)).Nodup → (k, a) ∈ l → (k, b) ∈ l → a = b
  | [], _, _, _, _, h, _ => by simp at h
  | y :: r, k, a, b, hn, h1, h2 => by
    rw [List.map_cons, List.nodup_cons] at hn
    rcases List.mem_cons.mp h1 with e1 | e1 <;> rcases List.mem_cons.mp h2 with e2 | e2
    · rw [← e1] at e2; exact (Prod.mk.inj e2).2.symm
    · exact absurd (by rw [← e1]; exact List.mem_map_of_mem (f := (·.1)) e2) hn.1
    · exact absurd (by rw [← e2]; exact List.mem_map_of_mem (f := (·.1)) e1) hn.1
    · exact fst_uniq hn.2 e1 e2
theorem NetOk.uniq {pls : List Pl} (n : NetOk pls) {k : Kk} {p q : Str × Nat} (h1 : Mk (mlsOf pls) (llsOf pls) k p) (h2 : Mk (mlsOf pls) (llsOf pls) k q) : p = q := by
  induction h1 with
  | base h =>
    cases h2 with
    | base h' => exact fst_uniq n.mkNodup h h'
    | step h' _ => exact (n.apart (List.mem_map_of_mem (f := (·.1)) h) (List.mem_map_of_mem (f := (·.1)) h')).elim
  | step h _ ih =>
    cases h2 with
    | base h' => exact (n.apart (List.mem_map_of_mem (f := (·.1)) h') (List.mem_map_of_mem (f := (·.1)) h)).elim
    | step h' hm =>
      have := fst_uniq n.lkNodup h h'
      subst this
      exact ih hm
noncomputable def MvAt (H : Hp) (kv : List Key × V) (x : Kk × (Str × Nat)) : Prop := kv.1 = key2 x.1 ∧ ∃ t, kv.2 = .ref t ∧ H t = some (.tup [.str x.2.1, .int (x.2.2 : Int)])
noncomputable def LvAt (H : Hp) (kv : List Key × V) (x : Kk × Kk) : Prop := kv.1 = key2 x.1 ∧ ∃ t, kv.2 = .ref t ∧ H t = some (.tup [.str x.2.1, .str x.2.2])
noncomputable def GvAt (kv : List Key × V) (x : Kk × Str) : Prop := kv.1 = key2 x.1 ∧ kv.2 = .str x.2
theorem MvAt.mono {H H' : Hp} (s : Tups H H') {kv : List Key × V} {x : Kk × (Str × Nat)} (h : MvAt H kv x) : MvAt H' kv x := by
  obtain ⟨e, t, e2, h⟩ := h
  exact ⟨e, t, e2, s _ _ h⟩
theorem LvAt.mono {H H' : Hp} (s : Tups H H') {kv : List Key × V} {x : Kk × Kk} (h : LvAt H kv x) : LvAt H' kv x := by
  obtain ⟨e, t, e2, h⟩ := h
  exact ⟨e, t, e2, s _ _ h⟩
theorem keys_of {β : Type} {F : List Key × V → Kk × β → Prop} (hF : ∀ kv x, F kv x → kv.1 = key2 x.1) : ∀ {kvs : List (List Key × V)} {xs : List (Kk × β)}, Paired F kvs xs → kvs.map (·.1) = (xs.map (·.1)).map key2
  | _, _, .nil => rfl
  | _, _, .cons h t => by rw [List.map_cons, List.map_cons, List.map_cons, keys_of hF t, hF _ _ h]
theorem val_of {β : Type} {F : List Key × V → Kk × β → Prop} (hF : ∀ kv x, F kv x → kv.1 = key2 x.1) : ∀ {kvs : List (List Key × V)} {xs : List (Kk × β)} {x : Kk × β}, Paired F kvs xs → (xs.map (·.1)).Nodup → x ∈ xs → ∃ kv, F kv x ∧ valV kvs (key2 x.1) = some kv.2
  | _, _, x, .nil, _, h => by simp at h
  | _, _, x, .cons (a := kv) (b := y) hy t, hn, h => by
    rw [List.map_cons, List.nodup_cons] at hn
    rcases List.mem_cons.mp h with e | e
    · subst e
      exact ⟨kv, hy, valV_pos (hF _ _ hy)⟩
    · obtain ⟨kv', h1, h2⟩ := val_of hF t hn.2 e
      refine ⟨kv', h1, ?_⟩
      rw [valV_neg (fun z => hn.1 ?_)]
      · exact h2
      · have : key2 y.1 = key2 x.1 := (hF _ _ hy).symm.trans z
        rw [key2_inj this]
        exact List.mem_map_of_mem (f := (·.1)) e
theorem val_none {β : Type} {F : List Key × V → Kk × β → Prop} (hF : ∀ kv x, F kv x → kv.1 = key2 x.1) : ∀ {kvs : List (List Key × V)} {xs : List (Kk × β)} {k : Kk}, Paired F kvs xs → k ∉ xs.map (·.1) → valV kvs (key2 k) = none
  | _, _, k, .nil, _ => rfl
  | _, _, k, .cons (a := kv) (b := y) hy t, h => by
    rw [List.map_cons, List.mem_cons, not_or] at h
    rw [valV_neg (fun z => h.1 (key2_inj ((hF _ _ hy).symm.trans z)).symm)]
    exact val_none hF t h.2
theorem new_key {β : Type} {F : List Key × V → Kk × β → Prop} (hF : ∀ kv x, F kv x → kv.1 = key2 x.1) {kvs : List (List Key × V)} {xs : List (Kk × β)} {k : Kk} (h : Paired F kvs xs) (hk : k ∉ xs.map (·.1)) : key2 k ∉ kvs.map (·.1) := by
  rw [keys_of hF h]
  intro z
  obtain ⟨k', h1, h2⟩ := List.mem_map.mp z
  rw [key2_inj h2] at h1
  exact hk h1
theorem take_nodup {α β : Type} {l : List (α × β)} {a b : List (α × β)} (h : (l.map (·.1)).Nodup) (e : l = a ++ b) : (a.map (·.1)).Nodup := by
  rw [e, List.map_append] at h
  exact (List.nodup_append.mp h).1
theorem mls_app (a b : List Pl) : mlsOf (a ++ b) = mlsOf a ++ mlsOf b := by unfold mlsOf; rw [List.filterMap_append]
theorem gls_app (a b : List Pl) : glsOf (a ++ b) = glsOf a ++ glsOf b := by unfold glsOf; rw [List.filterMap_append]
theorem bls_app (a b : List Pl) : blsOf (a ++ b) = blsOf a ++ blsOf b := by unfold blsOf; rw [List.flatMap_append]
theorem mls_split (pls : List Pl) (i : Nat) : mlsOf pls = mlsOf (pls.take i) ++ mlsOf (pls.drop i) := by rw [← mls_app, List.take_append_drop]
theorem gls_split (pls : List Pl) (i : Nat) : glsOf pls = glsOf (pls.take i) ++ glsOf (pls.drop i) := by rw [← gls_app, List.take_append_drop]
theorem bls_split (pls : List Pl) (i : Nat) : blsOf pls = blsOf (pls.take i) ++ blsOf (pls.drop i) := by rw [← bls_app, List.take_append_drop]
theorem mls_len (pls : List Pl) : (mlsOf pls).length ≤ pls.length := List.length_filterMap_le _ _
theorem gls_len (pls : List Pl) : (glsOf pls).length ≤ pls.length := List.length_filterMap_le _ _
theorem bls_len : ∀ {pls : List Pl}, (∀ x ∈ pls, (pairsOf x.2.2).length ≤ 6) → (blsOf pls).length ≤ 6 * pls.length
  | [], _ => by simp [blsOf]
  | x :: r, h => by
    have h1 := bls_len (pls := r) fun y hy => h y (List.mem_cons_of_mem _ hy)
    have h2 := h x List.mem_cons_self
    have e : blsOf (x :: r) = ((pairsOf x.2.2).map fun q => ((x.1, q.2.2), (q.1, q.2.1))) ++ blsOf r := rfl
    rw [e, List.length_append, List.length_map, List.length_cons]
    omega
theorem szK {n : Nat} (h : n ≤ 10000) : n < sizeLine := by
  have : sizeLine = 16777216 := sizeLine_eq
  omega
noncomputable def spMadeV : Sp := fun vs H Q _ => ∃ (a : Addr) (ps : List Pt), vs = [.ref a] ∧ PartsF H a ps ∧ PsFit ps ∧ NetOk (plsOf ps) ∧ ∀ (d : Addr) (kvs : List (List Key × V)) (H' : Hp), Same H H' → H d = none → H' d = some (.dT kvs) → Paired (MvAt H') kvs (mlsOf (plsOf ps)) → Q (.ref d) H'
theorem ok_made (T : Txt K mg) : L2.Cl P w K mg base 2 "made" ["parts"] spMadeV := by
  have C_placed_rows := ok_placed (P := P) (w := w) (base := base) T
  refine Cl.of T.d_made sc_made (fun vs H Q E h => ?_) (fun _ _ _ _ _ _ us hl => len1 us hl (fun _ => rfl)) (fun fa cdv A outer s H vs Q E hr h => ?_)
  · obtain ⟨a, ps, rfl, _⟩ := h
    rfl
  · obtain ⟨a, ps, rfl, hpf, hfit, hnet, q⟩ := h
    have hu := hu_of hr
    have hpl := hnet.len
    refine ⟨_, (pss_cons (ps_set (i := 1) sc_made.nd rfl (Or.inl rfl) pe_dnewT)
      (pss_cons (ps_for PassesOwn.never rfl (pi_tup (pe_fn C_placed_rows hr (by rfl) (pa_cons (pv 0) pa_nil))) (pg_tup rfl (pgs_cons (pg_name (i := 2) sc_made.nd rfl (Or.inl rfl)) (pgs_cons (pg_name (i := 3) sc_made.nd rfl (Or.inl rfl)) (pgs_cons (pg_name (i := 4) sc_made.nd rfl (Or.inl rfl)) pgs_nil))))
        (pss_one (ps_if (pt_cmpR op_in_seq (pe_ix ix_tup (pv 4) pe_int (fun _ _ => rfl)) (pe_tup (pa_cons pe_str (pa_cons pe_str pa_nil))) (by with_unfolding_all rfl))
          (pss_one (ps_dput hu (pv 1) (pe_tup (pa_cons (pv 2) (pa_cons (pe_ix ix_tup (pv 4) pe_int (fun _ _ => rfl)) pa_nil))) (pe_tup (pa_cons (pv 2) (pa_cons (pv 3) pa_nil))) rfl)) pss_nil)))
      (pss_one (ps_ret (pv 1))))), ?_⟩
    intro d gd
    have s1 : Same H (upd H d (.dT [])) := (Same.refl H).new gd
    refine ⟨_, rfl, a, ps, rfl, s1.partsF hpf, hfit, fun p vs H1 s2 hp hvs => ?_⟩
    have s12 := s1.trans s2
    have hd1 : H1 d = some (.dT []) := s2 _ _ upd_same
    have hvl : vs.length = (plsOf ps).length := Paired.length hvs
    refine ⟨p, rfl, ⟨_, SqT.of hp⟩, for_tup (K := K) (a := p) (xs := vs) (fun i σ H2 => ∃ (kvs : List (List Key × V)) (v2 v3 v4 : Option V), σ = [some (.ref a), some (.ref d), v2, v3, v4] ∧ Same H H2 ∧ H2 p = some (.tup vs) ∧ Tups H1 H2 ∧ H2 d = some (.dT kvs) ∧ Paired (MvAt H2) kvs (mlsOf ((plsOf ps).take i)))
      ⟨[], none, none, none, rfl, s12, hp, Tups.refl H1, hd1, by rw [List.take_zero]; exact .nil⟩ (fun i σ H2 _ ⟨_, _, _, _, _, _, h, _⟩ => SqT.of h) ?_ ?_⟩
    · rintro i y σ H2 hy ⟨kvs, v2, v3, v4, rfl, s3, hp2, T2, hd2, hk⟩
      obtain ⟨⟨n, j, rw⟩, hx, t, r, ey, ht, hra⟩ := Paired.get? hvs hy
      subst ey
      have hra2 := hra.mono T2
      have htk : mlsOf ((plsOf ps).take (i + 1)) = mlsOf ((plsOf ps).take i) ++ mlsOf [(n, j, rw)] := by
        rw [take_succ_get hx, mls_app]
      have hkl : kvs.length ≤ 960 := by
        rw [Paired.length hk]
        have h2 := mls_len ((plsOf ps).take i)
        rw [List.length_take] at h2
        omega
      refine ⟨t, _, rfl, SqT.of (T2 _ _ ht), rfl, _, _, rfl, _, _, rfl, _, _, rfl, rfl, ?_⟩
      rcases row_own hra2 with ⟨o, rest, hkd, ho, hrt⟩ | ⟨hkd, ho⟩
      · have z0 : atI (V.str (kindS rw) :: V.str o :: rest) 0 = some (.str (kindS rw)) := atI_nat (j := 0) rfl
        have z1 : atI (V.str (kindS rw) :: V.str o :: rest) 1 = some (.str o) := atI_nat (j := 1) rfl
        refine ⟨_, rfl, r, _, _, _, rfl, rfl, SqT.of hrt, z0, (by show 2 ≤ sizeLine; decide), fun c gc => ?_⟩
        have s4 : Same H2 (upd H2 c (.tup [.str "set", .str "take"])) := (Same.refl H2).new gc
        refine ⟨c, _, rfl, .inr (SqT.of upd_same), rfl, rfl, _, rfl, ?_⟩
        rw [if_neg (by decide), inV2, decide_eq_true hkd]
        refine iteT ?_
        refine ⟨_, rfl, _, rfl, (by show 2 ≤ sizeLine; decide), fun e ge => ?_⟩
        have s5 := s4.new (o := .tup [.str n, .int (j : Int)]) ge
        refine ⟨_, rfl, _, rfl, _, rfl, r, _, _, _, rfl, rfl, SqT.of (s5 _ _ hrt), z1, (by show 2 ≤ sizeLine; decide), fun g gg => ?_⟩
        have s6 := s5.new (o := .tup [.str n, .str o]) gg
        have hd6 := s6 _ _ hd2
        have hg6 : upd (upd (upd H2 c (.tup [.str "set", .str "take"])) e (.tup [.str n, .int (j : Int)])) g (.tup [.str n, .str o]) g = some (.tup ((key2 (n, o)).map kV)) := upd_same
        refine ⟨d, _, rfl, DPut.t (k := key2 (n, o)) hd6 hg6 (szK (by omega)), ?_⟩
        have h3 : mlsOf [(n, j, rw)] = [((n, o), (n, j))] := by simp [mlsOf, ho]
        have hnew : key2 (n, o) ∉ kvs.map (·.1) := new_key (fun _ _ h => h.1) hk (fun z => by
          have h1 := take_nodup hnet.mkNodup (mls_split (plsOf ps) (i + 1))
          rw [htk, h3, List.map_append] at h1
          exact (List.nodup_append.mp h1).2.2 _ z _ (List.mem_singleton.mpr rfl) rfl)
        rw [putK_new hnew]
        have T6 := s6.tups.trans (Tups.dT (kvs' := kvs ++ [(key2 (n, o), .ref e)]) hd6)
        refine ⟨kvs ++ [(key2 (n, o), .ref e)], _, _, _, rfl, (s3.trans s6).put gd, T6 _ _ hp2, T2.trans T6, upd_same, ?_⟩
        rw [htk, h3]
        refine Paired.snoc (Paired.mapP hk fun _ _ z => z.mono T6) ⟨rfl, e, rfl, Tups.dT (kvs' := kvs ++ [(key2 (n, o), .ref e)]) hd6 _ _ (upd_keep upd_same gg)⟩
      · obtain ⟨x1, rest, hrt⟩ := hra2.kind
        have z0 : atI (V.str (kindS rw) :: x1 :: rest) 0 = some (.str (kindS rw)) := atI_nat (j := 0) rfl
        refine ⟨_, rfl, r, _, _, _, rfl, rfl, SqT.of hrt, z0, (by show 2 ≤ sizeLine; decide), fun c gc => ?_⟩
        have s4 : Same H2 (upd H2 c (.tup [.str "set", .str "take"])) := (Same.refl H2).new gc
        refine ⟨c, _, rfl, .inr (SqT.of upd_same), rfl, rfl, _, rfl, ?_⟩
        rw [if_neg (by decide), inV2, decide_eq_false hkd]
        refine iteF ?_
        have h3 : mlsOf [(n, j, rw)] = [] := by simp [mlsOf, ho]
        exact ⟨kvs, _, _, _, rfl, s3.trans s4, s4 _ _ hp2, T2.trans s4.tups, s4 _ _ hd2, by rw [htk, h3, List.append_nil]; exact Paired.mapP hk fun _ _ z => z.mono s4.tups⟩
    · rintro σ H2 ⟨kvs, v2, v3, v4, rfl, s3, hp2, T2, hd2, hk⟩
      rw [hvl, List.take_length] at hk
      exact ⟨_, rfl, q d kvs H2 s3 gd hd2 hk⟩
theorem row_give {H : Hp} {r : Addr} {rw : Rw} (h : RowAt H r rw) : (∃ o g, giveOf rw = some (o, g) ∧ H r = some (.tup [.str "give", .str o, .str g])) ∨ (¬ kindS rw = "give" ∧ giveOf rw = none) := by
  cases rw with
  | give o g => exact .inl ⟨o, g, rfl, h⟩
  | _ => exact .inr ⟨by simp only [kindS]; decide +kernel, rfl⟩
theorem row_bring {H : Hp} {r : Addr} {rw : Rw} (h : RowAt H r rw) : (∃ m ps t, rw = .bring m ps ∧ H r = some (.tup [.str "bring", .str m, .ref t]) ∧ PairsAt H t ps) ∨ (¬ kindS rw = "bring" ∧ pairsOf rw = []) := by
  cases rw with
  | bring m ps => obtain ⟨t, h1, h2⟩ := h; exact .inl ⟨m, ps, t, rfl, h1, h2⟩
  | _ => exact .inr ⟨by simp only [kindS]; decide +kernel, rfl⟩
noncomputable def spGivenOwns : Sp := fun vs H Q _ => ∃ (a : Addr) (ps : List Pt), vs = [.ref a] ∧ PartsF H a ps ∧ PsFit ps ∧ NetOk (plsOf ps) ∧ ∀ (d : Addr) (kvs : List (List Key × V)) (H' : Hp), Same H H' → H' d = some (.dT kvs) → Paired GvAt kvs (glsOf (plsOf ps)) → Q (.ref d) H'
theorem ok_given_owns (T : Txt K mg) : L2.Cl P w K mg base 2 "given_owns" ["parts"] spGivenOwns := by
  have C_placed_rows := ok_placed (P := P) (w := w) (base := base) T
  refine Cl.of T.d_given_owns sc_given_owns (fun vs H Q E h => ?_) (fun _ _ _ _ _ _ us hl => len1 us hl (fun _ => rfl)) (fun fa cdv A outer s H vs Q E hr h => ?_)
  · obtain ⟨a, ps, rfl, _⟩ := h
    rfl
  · obtain ⟨a, ps, rfl, hpf, hfit, hnet, q⟩ := h
    have hu := hu_of hr
    have hpl := hnet.len
    refine ⟨_, (pss_cons (ps_set (i := 1) sc_given_owns.nd rfl (Or.inl rfl) pe_dnewT)
      (pss_cons (ps_for PassesOwn.never rfl (pi_tup (pe_fn C_placed_rows hr (by rfl) (pa_cons (pv 0) pa_nil))) (pg_tup rfl (pgs_cons (pg_name (i := 2) sc_given_owns.nd rfl (Or.inl rfl)) (pgs_cons (pg_name (i := 3) sc_given_owns.nd rfl (Or.inl rfl)) (pgs_cons (pg_name (i := 4) sc_given_owns.nd rfl (Or.inl rfl)) pgs_nil))))
        (pss_one (ps_if (pt_cmpR op_eq (pe_ix ix_tup (pv 4) pe_int (fun _ _ => rfl)) pe_str (nomark _))
          (pss_one (ps_dput hu (pv 1) (pe_tup (pa_cons (pv 2) (pa_cons (pe_ix ix_tup (pv 4) pe_int (fun _ _ => rfl)) pa_nil))) (pe_ix ix_tup (pv 4) pe_int (fun _ _ => rfl)) rfl)) pss_nil)))
      (pss_one (ps_ret (pv 1))))), ?_⟩
    intro d gd
    have s1 : Same H (upd H d (.dT [])) := (Same.refl H).new gd
    refine ⟨_, rfl, a, ps, rfl, s1.partsF hpf, hfit, fun p vs H1 s2 hp hvs => ?_⟩
    have s12 := s1.trans s2
    have hd1 : H1 d = some (.dT []) := s2 _ _ upd_same
    have hvl : vs.length = (plsOf ps).length := Paired.length hvs
    refine ⟨p, rfl, ⟨_, SqT.of hp⟩, for_tup (K := K) (a := p) (xs := vs) (fun i σ H2 => ∃ (kvs : List (List Key × V)) (v2 v3 v4 : Option V), σ = [some (.ref a), some (.ref d), v2, v3, v4] ∧ Same H H2 ∧ H2 p = some (.tup vs) ∧ Tups H1 H2 ∧ H2 d = some (.dT kvs) ∧ Paired GvAt kvs (glsOf ((plsOf ps).take i)))
      ⟨[], none, none, none, rfl, s12, hp, Tups.refl H1, hd1, by rw [List.take_zero]; exact .nil⟩ (fun i σ H2 _ ⟨_, _, _, _, _, _, h, _⟩ => SqT.of h) ?_ ?_⟩
    · rintro i y σ H2 hy ⟨kvs, v2, v3, v4, rfl, s3, hp2, T2, hd2, hk⟩
      obtain ⟨⟨n, j, rw⟩, hx, t, r, ey, ht, hra⟩ := Paired.get? hvs hy
      subst ey
      have hra2 := hra.mono T2
      have htk : glsOf ((plsOf ps).take (i + 1)) = glsOf ((plsOf ps).take i) ++ glsOf [(n, j, rw)] := by
        rw [take_succ_get hx, gls_app]
      have hkl : kvs.length ≤ 960 := by
        rw [Paired.length hk]
        have h2 := gls_len ((plsOf ps).take i)
        rw [List.length_take] at h2
        omega
      refine ⟨t, _, rfl, SqT.of (T2 _ _ ht), rfl, _, _, rfl, _, _, rfl, _, _, rfl, rfl, ?_⟩
      rcases row_give hra2 with ⟨o, g, ho, hrt⟩ | ⟨hkd, ho⟩
      · refine ⟨_, rfl, r, _, _, _, rfl, rfl, SqT.of hrt, rfl, rfl, _, rfl, iteSE ?_⟩
        refine ⟨_, rfl, r, _, _, _, rfl, rfl, SqT.of hrt, rfl, _, rfl, _, rfl, _, rfl, r, _, _, _, rfl, rfl, SqT.of hrt, rfl, (by show 2 ≤ sizeLine; decide), fun e ge => ?_⟩
        have s6 : Same H2 (upd H2 e (.tup [.str n, .str g])) := (Same.refl H2).new ge
        have hd6 := s6 _ _ hd2
        have hg6 : upd H2 e (.tup [.str n, .str g]) e = some (.tup ((key2 (n, g)).map kV)) := upd_same
        refine ⟨d, _, rfl, DPut.t (k := key2 (n, g)) hd6 hg6 (szK (by omega)), ?_⟩
        have h3 : glsOf [(n, j, rw)] = [((n, g), o)] := by simp [glsOf, ho]
        have hnew : key2 (n, g) ∉ kvs.map (·.1) := new_key (fun _ _ h => h.1) hk (fun z => by
          have h1 := take_nodup hnet.gk (gls_split (plsOf ps) (i + 1))
          rw [htk, h3, List.map_append] at h1
          exact (List.nodup_append.mp h1).2.2 _ z _ (List.mem_singleton.mpr rfl) rfl)
        rw [putK_new hnew]
        have T6 := s6.tups.trans (Tups.dT (kvs' := kvs ++ [(key2 (n, g), .str o)]) hd6)
        refine ⟨kvs ++ [(key2 (n, g), .str o)], _, _, _, rfl, (s3.trans s6).put gd, T6 _ _ hp2, T2.trans T6, upd_same, ?_⟩
        rw [htk, h3]
        exact Paired.snoc hk ⟨rfl, rfl⟩
      · obtain ⟨x1, rest, hrt⟩ := hra2.kind
        have z0 : atI (V.str (kindS rw) :: x1 :: rest) 0 = some (.str (kindS rw)) := atI_nat (j := 0) rfl
        refine ⟨_, rfl, r, _, _, _, rfl, rfl, SqT.of hrt, z0, rfl, _, rfl, iteSN hkd ?_⟩
        have h3 : glsOf [(n, j, rw)] = [] := by simp [glsOf, ho]
        exact ⟨kvs, _, _, _, rfl, s3, hp2, T2, hd2, by rw [htk, h3, List.append_nil]; exact hk⟩
    · rintro σ H2 ⟨kvs, v2, v3, v4, rfl, s3, hp2, T2, hd2, hk⟩
      rw [hvl, List.take_length] at hk
      exact ⟨_, rfl, q d kvs H2 s3 hd2 hk⟩
noncomputable def llG (G : List (Kk × Str)) (bs : List (Kk × Kk)) : List (Kk × Kk) := bs.map fun x => (x.1, (x.2.1, gget G x.2))
theorem llG_app (G : List (Kk × Str)) (a b : List (Kk × Kk)) : llG G (a ++ b) = llG G a ++ llG G b := by unfold llG; rw [List.map_append]
theorem llG_keys (G : List (Kk × Str)) (bs : List (Kk × Kk)) : (llG G bs).map (·.1) = bs.map (·.1) := by unfold llG; rw [List.map_map]; rfl
noncomputable def brOf (n m : Str) (prs : List (Str × Str)) : List (Kk × Kk) := prs.map fun q => ((n, q.2), (m, q.1))
theorem bls_one (n : Str) (j : Nat) (m : Str) (prs : List (Str × Str)) : blsOf [(n, j, .bring m prs)] = brOf n m prs := by
  unfold blsOf brOf pairsOf
  simp
noncomputable def spLinks : Sp := fun vs H Q _ => ∃ (a : Addr) (ps : List Pt), vs = [.ref a] ∧ PartsF H a ps ∧ PsFit ps ∧ NetOk (plsOf ps) ∧ ∀ (d : Addr) (kvs : List (List Key × V)) (H' : Hp), Same H H' → H d = none → H' d = some (.dT kvs) → Paired (LvAt H') kvs (llsOf (plsOf ps)) → Q (.ref d) H'
theorem ok_links (T : Txt K mg) : L2.Cl P w K mg base 3 "links" ["parts"] spLinks := by
  have C_placed_rows := ok_placed (P := P) (w := w) (base := base) T
  have C_given_owns := ok_given_owns (P := P) (w := w) (base := base) T
  refine Cl.of T.d_links sc_links (fun vs H Q E h => ?_) (fun _ _ _ _ _ _ us hl => len1 us hl (fun _ => rfl)) (fun fa cdv A outer s H vs Q E hr h => ?_)
  · obtain ⟨a, ps, rfl, _⟩ := h
    rfl
  · obtain ⟨a, ps, rfl, hpf, hfit, hnet, q⟩ := h
    have hu := hu_of hr
    have hpl := hnet.len
    refine ⟨_, (pss_cons (ps_set (i := 1) sc_links.nd rfl (Or.inl rfl) (pe_fn C_given_owns hr (by rfl) (pa_cons (pv 0) pa_nil)))
      (pss_cons (ps_set (i := 2) sc_links.nd rfl (Or.inl rfl) pe_dnewT)
      (pss_cons (ps_for PassesOwn.never rfl (pi_tup (pe_fn C_placed_rows hr (by rfl) (pa_cons (pv 0) pa_nil))) (pg_tup rfl (pgs_cons (pg_name (i := 3) sc_links.nd rfl (Or.inl rfl)) (pgs_cons (pg_name (i := 4) sc_links.nd rfl (Or.inl rfl)) (pgs_cons (pg_name (i := 5) sc_links.nd rfl (Or.inl rfl)) pgs_nil))))
        (pss_one (ps_if (pt_cmpR op_eq (pe_ix ix_tup (pv 5) pe_int (fun _ _ => rfl)) pe_str (nomark _))
          (pss_one (ps_for PassesOwn.never rfl (pi_tup (pe_ix ix_tup (pv 5) pe_int (fun _ _ => rfl))) (pg_tup rfl (pgs_cons (pg_name (i := 6) sc_links.nd rfl (Or.inl rfl)) (pgs_cons (pg_name (i := 7) sc_links.nd rfl (Or.inl rfl)) pgs_nil)))
            (pss_one (ps_dput hu (pv 2) (pe_tup (pa_cons (pv 3) (pa_cons (pv 7) pa_nil))) (pe_tup (pa_cons (pe_ix ix_tup (pv 5) pe_int (fun _ _ => rfl)) (pa_cons (pe_dget hu (pv 1) (pe_tup (pa_cons (pe_ix ix_tup (pv 5) pe_int (fun _ _ => rfl)) (pa_cons (pv 6) pa_nil))) (fun _ _ => rfl)) pa_nil))) rfl)))) pss_nil)))
      (pss_one (ps_ret (pv 2)))))), ?_⟩
    refine ⟨_, rfl, a, ps, rfl, hpf, hfit, hnet, fun ow gkv H1 s1 how hg => ?_⟩
    intro d gd
    have s2 : Same H1 (upd H1 d (.dT [])) := (Same.refl H1).new gd
    refine ⟨_, rfl, a, ps, rfl, (s1.trans s2).partsF hpf, hfit, fun p vs H3 s3 hp hvs => ?_⟩
    have s03 := (s1.trans s2).trans s3
    have gdH : H d = none := s1.free gd
    have hd3 : H3 d = some (.dT []) := s3 _ _ upd_same
    have how3 : H3 ow = some (.dT gkv) := s3 _ _ (s2 _ _ how)
    have hod : ow ≠ d := fun z => by rw [z, gd] at how; cases how
    have hvl : vs.length = (plsOf ps).length := Paired.length hvs
    have hG := hnet.gk
    refine ⟨p, rfl, ⟨_, SqT.of hp⟩, for_tup (K := K) (a := p) (xs := vs) (fun i σ H2 => ∃ (kvs : List (List Key × V)) (v3 v4 v5 v6 v7 : Option V), σ = [some (.ref a), some (.ref ow), some (.ref d), v3, v4, v5, v6, v7] ∧ Same H H2 ∧ H2 p = some (.tup vs) ∧ Tups H3 H2 ∧ H2 ow = some (.dT gkv) ∧ H2 d = some (.dT kvs) ∧ Paired (LvAt H2) kvs (llG (glsOf (plsOf ps)) (blsOf ((plsOf ps).take i))))
      ⟨[], none, none, none, none, none, rfl, s03, hp, Tups.refl H3, how3, hd3, by rw [List.take_zero]; exact .nil⟩ (fun i σ H2 _ ⟨_, _, _, _, _, _, _, _, h, _⟩ => SqT.of h) ?_ ?_⟩
    · rintro i y σ H2 hy ⟨kvs, v3, v4, v5, v6, v7, rfl, s4, hp2, T2, how2, hd2, hk⟩
      obtain ⟨⟨n, jj, rw⟩, hx, t, r, ey, ht, hra⟩ := Paired.get? hvs hy
      subst ey
      have hra2 := hra.mono T2
      have hxm := List.mem_of_getElem? hx
      have htk : blsOf ((plsOf ps).take (i + 1)) = blsOf ((plsOf ps).take i) ++ blsOf [(n, jj, rw)] := by
        rw [take_succ_get hx, bls_app]
      have hbl : (blsOf ((plsOf ps).take i)).length ≤ 5760 := by
        have h1 := bls_len (pls := (plsOf ps).take i) fun x hx => hnet.brs x (List.mem_of_mem_take hx)
        rw [List.length_take] at h1
        omega
      refine ⟨t, _, rfl, SqT.of (T2 _ _ ht), rfl, _, _, rfl, _, _, rfl, _, _, rfl, rfl, ?_⟩
      rcases row_bring hra2 with ⟨m, prs, t', e, hrt, ⟨vs', ht', hprs⟩, hp6⟩ | ⟨hkd, ho⟩
      · subst e
        have hvl' : vs'.length = prs.length := Paired.length hprs
        refine ⟨_, rfl, r, _, _, _, rfl, rfl, SqT.of hrt, rfl, rfl, _, rfl, iteSE ?_⟩
        have hnd : ((blsOf ((plsOf ps).take i)).map (·.1) ++ (brOf n m prs).map (·.1)).Nodup := by
          have h1 := hnet.keys
          rw [bls_split (plsOf ps) (i + 1), htk, bls_one, List.map_append, List.map_append, ← List.append_assoc] at h1
          have h2 := (List.nodup_append.mp h1).1
          exact (List.nodup_append.mp h2).2.1
        refine ⟨_, rfl, r, _, _, _, rfl, rfl, SqT.of hrt, rfl, t', rfl, ⟨_, SqT.of ht'⟩, for_tup (K := K) (a := t') (xs := vs') (fun j σ H4 => ∃ (kvs : List (List Key × V)) (v6 v7 : Option V), σ = [some (.ref a), some (.ref ow), some (.ref d), some (.str n), some (.int (jj : Int)), some (.ref r), v6, v7] ∧ Same H H4 ∧ Tups H2 H4 ∧ H4 ow = some (.dT gkv) ∧ H4 d = some (.dT kvs) ∧ Paired (LvAt H4) kvs (llG (glsOf (plsOf ps)) (blsOf ((plsOf ps).take i) ++ brOf n m (prs.take j))))
          ⟨kvs, _, _, rfl, s4, Tups.refl H2, how2, hd2, by rw [List.take_zero]; show Paired _ kvs (llG _ (blsOf ((plsOf ps).take i) ++ [])); rw [List.append_nil]; exact hk⟩ (fun j σ H4 _ ⟨_, _, _, _, _, TT, _⟩ => SqT.of (TT _ _ ht')) ?_ ?_⟩
        · rintro j y σ H4 hy4 ⟨kv4, w6, w7, rfl, s5, T4, how4, hd4, hk4⟩
          obtain ⟨qq, hq, c, ec, hc, _, _⟩ := Paired.get? hprs hy4
          subst ec
          have hj : j < prs.length := (List.getElem?_eq_some_iff.mp hq).1
          have hrt4 := T4 _ _ hrt
          have htk4 : brOf n m (prs.take (j + 1)) = brOf n m (prs.take j) ++ [((n, qq.2), (m, qq.1))] := by
            rw [take_succ_get hq]
            unfold brOf
            rw [List.map_append]
            rfl
          have hkl : kv4.length ≤ 6000 := by
            rw [Paired.length hk4]
            unfold llG
            rw [List.length_map, List.length_append]
            have : (brOf n m (prs.take j)).length = j := by unfold brOf; rw [List.length_map, List.length_take]; omega
            omega
          have hxb : ((n, qq.2), (m, qq.1)) ∈ blsOf (plsOf ps) := by
            unfold blsOf
            refine List.mem_flatMap.mpr ⟨_, hxm, ?_⟩
            exact List.mem_map.mpr ⟨(m, qq), List.mem_map.mpr ⟨qq, List.mem_of_getElem? hq, rfl⟩, rfl⟩
          obtain ⟨o', ho'⟩ := hnet.gv _ hxb
          have hgg : gget (glsOf (plsOf ps)) (m, qq.1) = o' := gget_eq hG ho'
          obtain ⟨kv', ⟨_, hv1⟩, hv2⟩ := val_of (F := GvAt) (fun _ _ h => h.1) hg hG ho'
          refine ⟨c, _, rfl, SqT.of (T4 _ _ hc), rfl, _, _, rfl, _, _, rfl, rfl, ?_⟩
          refine ⟨_, rfl, r, _, _, _, rfl, rfl, SqT.of hrt4, rfl, _, rfl, _, rfl, r, _, _, _, rfl, rfl, SqT.of hrt4, rfl, _, rfl, (by show 2 ≤ sizeLine; decide), fun e ge => ?_⟩
          have s6 : Same H4 (upd H4 e (.tup [.str m, .str qq.1])) := (Same.refl H4).new ge
          have hget : DGet (upd H4 e (.tup [.str m, .str qq.1])) ow (.ref e) (some (.str o')) := by
            have h1 := DGet.t (k := key2 (m, qq.1)) (s6 _ _ how4) (show upd H4 e (.tup [.str m, .str qq.1]) e = some (.tup ((key2 (m, qq.1)).map kV)) from upd_same)
            rw [hv2, hv1] at h1
            exact h1
          refine ⟨ow, _, rfl, hget, (by show 2 ≤ sizeLine; decide), fun g gg => ?_⟩
          have s7 := s6.new (o := .tup [.str m, .str o']) gg
          refine ⟨_, rfl, _, rfl, _, rfl, (by show 2 ≤ sizeLine; decide), fun b gb => ?_⟩
          have s8 := s7.new (o := .tup [.str n, .str qq.2]) gb
          have hd8 := s8 _ _ hd4
          have hb8 : upd (upd (upd H4 e (.tup [.str m, .str qq.1])) g (.tup [.str m, .str o'])) b (.tup [.str n, .str qq.2]) b = some (.tup ((key2 (n, qq.2)).map kV)) := upd_same
          refine ⟨d, _, rfl, DPut.t (k := key2 (n, qq.2)) hd8 hb8 (szK (by omega)), ?_⟩
          have hnew : key2 (n, qq.2) ∉ kv4.map (·.1) := new_key (F := LvAt H4) (fun _ _ h => h.1) hk4 (fun z => by
            rw [llG_keys, List.map_append] at z
            have hsub : ((blsOf ((plsOf ps).take i)).map (·.1) ++ (brOf n m (prs.take (j + 1))).map (·.1)).Sublist ((blsOf ((plsOf ps).take i)).map (·.1) ++ (brOf n m prs).map (·.1)) := by
              refine List.Sublist.append_left ?_ _
              unfold brOf
              exact ((List.take_sublist _ _).map _).map _
            have h1 := hsub.nodup hnd
            rw [htk4, List.map_append, ← List.append_assoc] at h1
            exact (List.nodup_append.mp h1).2.2 _ z _ (List.mem_singleton.mpr rfl) rfl)
          rw [putK_new hnew]
          have TD := Tups.dT (kvs' := kv4 ++ [(key2 (n, qq.2), .ref g)]) hd8
          have T8 := s8.tups.trans TD
          refine ⟨kv4 ++ [(key2 (n, qq.2), .ref g)], _, _, rfl, (s5.trans s8).put gdH, T4.trans T8, by rw [upd_ne hod]; exact s8 _ _ how4, upd_same, ?_⟩
          rw [htk4, ← List.append_assoc, llG_app]
          refine Paired.snoc (Paired.mapP hk4 fun _ _ z => z.mono T8) ⟨rfl, g, rfl, ?_⟩
          show _ = some (HO.tup [V.str m, V.str (gget (glsOf (plsOf ps)) (m, qq.1))])
          rw [hgg]
          exact TD _ _ (upd_keep upd_same gb)
        · rintro σ H4 ⟨kv4, w6, w7, rfl, s5, T4, how4, hd4, hk4⟩
          rw [hvl', List.take_length] at hk4
          refine ⟨kv4, _, _, _, _, _, rfl, s5, T4 _ _ hp2, T2.trans T4, how4, hd4, ?_⟩
          rw [htk, bls_one]
          exact hk4
      · obtain ⟨x1, rest, hrt⟩ := hra2.kind
        have z0 : atI (V.str (kindS rw) :: x1 :: rest) 0 = some (.str (kindS rw)) := atI_nat (j := 0) rfl
        refine ⟨_, rfl, r, _, _, _, rfl, rfl, SqT.of hrt, z0, rfl, _, rfl, iteSN hkd ?_⟩
        have h3 : blsOf [(n, jj, rw)] = [] := by unfold blsOf; simp [ho]
        exact ⟨kvs, _, _, _, _, _, rfl, s4, hp2, T2, how2, hd2, by rw [htk, h3, List.append_nil]; exact hk⟩
    · rintro σ H2 ⟨kvs, v3, v4, v5, v6, v7, rfl, s4, hp2, T2, how2, hd2, hk⟩
      rw [hvl, List.take_length] at hk
      exact ⟨_, rfl, q d kvs H2 s4 gdH hd2 hk⟩
structure FI (mls : List (Kk × (Str × Nat))) (ls : List (Kk × Kk)) (H : Hp) (kvs : List (List Key × V)) : Prop where
  nd : (kvs.map (·.1)).Nodup
  sub : ∀ k ∈ kvs.map (·.1), k ∈ (mls.map (·.1) ++ ls.map (·.1)).map key2
  val : ∀ x v, valV kvs (key2 x) = some v → ∃ t p, v = .ref t ∧ H t = some (.tup [.str p.1, .int ((p.2 : Nat) : Int)]) ∧ Mk mls ls x p
  has : ∀ x ∈ mls.map (·.1), (valV kvs (key2 x)).isSome = true
theorem putK_keys {κ : Type} [DecidableEq κ] {kvs : List (κ × V)} {k : κ} {v : V} (h : (kvs.map (·.1)).Nodup) : ((putK kvs k v).map (·.1)).Nodup ∧ ∀ x ∈ (putK kvs k v).map (·.1), x ∈ kvs.map (·.1) ∨ x = k := by
  by_cases hk : k ∈ kvs.map (·.1)
  · have e : (putK kvs k v).map (·.1) = kvs.map (·.1) := by
      unfold putK
      rw [if_pos]
      · rw [List.map_map]
        refine List.map_congr_left fun x _ => ?_
        show (if x.1 = k then (x.1, v) else x).1 = x.1
        split <;> rfl
      · obtain ⟨p, hp, e⟩ := List.mem_map.mp hk
        exact List.any_eq_true.mpr ⟨p, hp, decide_eq_true e⟩
    rw [e]
    exact ⟨h, fun x hx => .inl hx⟩
  · rw [putK_new hk, List.map_append]
    refine ⟨List.nodup_append.mpr ⟨h, by simp, fun a ha b hb z => hk (by have e : b = k := List.mem_singleton.mp hb; rw [← e, ← z]; exact ha)⟩, fun x hx => ?_⟩
    rcases List.mem_append.mp hx with z | z
    · exact .inl z
    · exact .inr (List.mem_singleton.mp z)
theorem FI.len {mls : List (Kk × (Str × Nat))} {ls : List (Kk × Kk)} {H : Hp} {kvs : List (List Key × V)} (h : FI mls ls H kvs) : kvs.length ≤ mls.length + ls.length := by
  have h1 := nodup_lenG _ _ h.nd h.sub
  rw [List.length_map, List.length_map, List.length_append, List.length_map, List.length_map] at h1
  exact h1
theorem FI.mono {mls : List (Kk × (Str × Nat))} {ls : List (Kk × Kk)} {H H' : Hp} {kvs : List (List Key × V)} (h : FI mls ls H kvs) (s : Tups H H') : FI mls ls H' kvs := ⟨h.nd, h.sub, fun x v e => by
  obtain ⟨t, p, e1, e2, e3⟩ := h.val x v e
  exact ⟨t, p, e1, s _ _ e2, e3⟩, h.has⟩
theorem FI.put {mls : List (Kk × (Str × Nat))} {ls : List (Kk × Kk)} {H : Hp} {kvs : List (List Key × V)} (h : FI mls ls H kvs) {x : Kk} {t : Addr} {p : Str × Nat} (hx : x ∈ mls.map (·.1) ++ ls.map (·.1)) (ht : H t = some (.tup [.str p.1, .int ((p.2 : Nat) : Int)])) (hm : Mk mls ls x p) : FI mls ls H (putK kvs (key2 x) (.ref t)) := by
  obtain ⟨k1, k2⟩ := putK_keys (v := V.ref t) (k := key2 x) h.nd
  refine ⟨k1, fun k hk => ?_, fun y v e => ?_, fun y hy => ?_⟩
  · rcases k2 k hk with z | z
    · exact h.sub k z
    · rw [z]; exact List.mem_map_of_mem hx
  · rw [valV_put] at e
    by_cases z : key2 y = key2 x
    · rw [if_pos z] at e
      rw [key2_inj z]
      exact ⟨t, p, (Option.some.inj e).symm, ht, hm⟩
    · rw [if_neg z] at e
      exact h.val y v e
  · rw [valV_put]
    by_cases z : key2 y = key2 x
    · rw [if_pos z]; rfl
    · rw [if_neg z]; exact h.has y hy
noncomputable def OwAt (H : Hp) (v : V) (k : Str × Str) : Prop := ∃ b, v = .ref b ∧ H b = some (.tup [.str k.1, .str k.2])
theorem OwAt.mono {H H' : Hp} (s : Tups H H') {v : V} {k : Kk} (h : OwAt H v k) : OwAt H' v k := by
  obtain ⟨b, e, h⟩ := h
  exact ⟨b, e, s _ _ h⟩
noncomputable def muM (r : Kk → Nat) (i : Nat) (σ : L2.St) (H : Hp) : Nat := match σ[i]? with
  | some (some (V.ref b)) => match H b with
    | some (HO.tup [V.str n, V.str o]) => r (n, o)
    | _ => 0
  | _ => 0
noncomputable def spMakers : Sp := fun vs H Q _ => ∃ (a : Addr) (ps : List Pt), vs = [.ref a] ∧ PartsF H a ps ∧ PsFit ps ∧ NetOk (plsOf ps) ∧ ∀ (d : Addr) (kvs : List (List Key × V)) (H' : Hp), Same H H' → H' d = some (.dT kvs) → FI (mlsOf (plsOf ps)) (llsOf (plsOf ps)) H' kvs → (∀ x ∈ (llsOf (plsOf ps)).map (·.1), (valV kvs (key2 x)).isSome = true) → Q (.ref d) H'
theorem Tups.frz {H : Hp} {l : Addr} {o : Obj} {u : HO} {kvs : List (List Key × V)} (h : H l = some (.dT kvs)) : Tups H (upd H l (.frz o u)) := fun b zs q => by
  rw [upd_ne (ne_of q h (by intro z; cases z))]
  exact q
theorem mk_of {pls : List Pl} {H : Hp} {kvs : List (List Key × V)} (hnet : NetOk pls) (h : Paired (MvAt H) kvs (mlsOf pls)) : FI (mlsOf pls) (llsOf pls) H kvs := by
  have hk := keys_of (F := MvAt H) (fun _ _ h => h.1) h
  refine ⟨?_, fun k hm => ?_, fun x v e => ?_, fun x hx => ?_⟩
  · rw [hk, List.nodup_iff_pairwise_ne, List.pairwise_map]
    have := hnet.mkNodup
    rw [List.nodup_iff_pairwise_ne] at this
    exact this.imp fun hne z => hne (key2_inj z)
  · rw [hk] at hm
    rw [List.map_append]
    exact List.mem_append_left _ hm
  · by_cases hx : x ∈ (mlsOf pls).map (·.1)
    · obtain ⟨y, hy, ey⟩ := List.mem_map.mp hx
      obtain ⟨kv, ⟨_, t, e1, e2⟩, e3⟩ := val_of (F := MvAt H) (fun _ _ h => h.1) h hnet.mkNodup hy
      rw [ey, e] at e3
      refine ⟨t, y.2, (Option.some.inj e3).trans e1, e2, .base ?_⟩
      rw [← ey]
      exact hy
    · rw [val_none (F := MvAt H) (fun _ _ h => h.1) h hx] at e
      cases e
  · obtain ⟨y, hy, ey⟩ := List.mem_map.mp hx
    obtain ⟨kv, _, e3⟩ := val_of (F := MvAt H) (fun _ _ h => h.1) h hnet.mkNodup hy
    rw [← ey, e3]
    rfl
theorem ok_makers (T : Txt K mg) : L2.Cl P w K mg base 4 "makers" ["parts"] spMakers := by
  have C_made := ok_made (P := P) (w := w) (base := base) T
  have C_links := ok_links (P := P) (w := w) (base := base) T
  refine Cl.of T.d_makers sc_makers (fun vs H Q E h => ?_) (fun _ _ _ _ _ _ us hl => len1 us hl (fun _ => rfl)) (fun fa cdv A outer s H vs Q E hr h => ?_)
  · obtain ⟨a, ps, rfl, _⟩ := h
    rfl
  · obtain ⟨a, ps, rfl, hpf, hfit, hnet, q⟩ := h
    have hu := hu_of hr
    have hpl := hnet.len
    obtain ⟨r, hrk⟩ := hnet.rk
    have hml := mls_len (plsOf ps)
    have hll : (llsOf (plsOf ps)).length ≤ 5760 := by
      have h1 := bls_len hnet.brs
      unfold llsOf
      rw [List.length_map]
      omega
    have htgt := fun {x : Kk × Kk} (hx : x ∈ llsOf (plsOf ps)) => hnet.tgt hx
    have hlkn := hnet.lkNodup
    refine ⟨_, (pss_cons (ps_set (i := 1) sc_makers.nd rfl (Or.inl rfl) (pe_fn C_made hr (by rfl) (pa_cons (pv 0) pa_nil)))
      (pss_cons (ps_set (i := 2) sc_makers.nd rfl (Or.inl rfl) (pe_fn C_links hr (by rfl) (pa_cons (pv 0) pa_nil)))
      (pss_cons (ps_for PassesOwn.never rfl (pi_dictT (pv 2)) (pg_name (i := 3) sc_makers.nd rfl (Or.inl rfl))
        (pss_cons (ps_set (i := 4) sc_makers.nd rfl (Or.inl rfl) (pe_lst pa_nil))
        (pss_cons (ps_set (i := 5) sc_makers.nd rfl (Or.inl rfl) (pv 3))
        (pss_cons (ps_while PassesOwn.never (pt_cmp (pc_dnotin hu (pv 5) (pv 1)))
          (pss_cons (ps_expr (pe_bm PySem.F.plainAttrs_list PySem.F.slot_list_append PySem.F.type_list_append mt_append (pv 4) (pa_cons (pv 5) pa_nil)))
          (pss_one (ps_set (i := 5) sc_makers.nd rfl (Or.inl rfl) (pe_dget hu (pv 2) (pv 5) (fun _ _ => rfl))))))
        (pss_one (ps_for PassesOwn.never rfl (pi_list (pv 4)) (pg_name (i := 6) sc_makers.nd rfl (Or.inl rfl))
          (pss_one (ps_dput hu (pv 1) (pv 6) (pe_dget hu (pv 1) (pv 5) (fun _ _ => rfl)) rfl))))))))
      (pss_one (ps_ret (pv 1)))))), ?_⟩
    refine ⟨_, rfl, a, ps, rfl, hpf, hfit, hnet, fun f mkv H1 s1 gf hf1 hmk => ?_⟩
    refine ⟨_, rfl, a, ps, rfl, s1.partsF hpf, hfit, hnet, fun on lkv H2 s2 gon hon hlk => ?_⟩
    have hfo : f ≠ on := fun z => by rw [z, gon] at hf1; cases hf1
    have gonH : H on = none := s1.free gon
    have s02 := s1.trans s2
    have fi2 : FI (mlsOf (plsOf ps)) (llsOf (plsOf ps)) H2 mkv := (mk_of hnet hmk).mono s2.tups
    generalize mlsOf (plsOf ps) = mls at *
    generalize llsOf (plsOf ps) = ls at *
    have hlkl : lkv.length = ls.length := Paired.length hlk
    refine ⟨_, rfl, on, lkv, rfl, hon, fun ob vs hvs => ?_⟩
    have hvl : vs.length = lkv.length := Paired.length hvs
    have T3 : Tups H2 (upd H2 on (.frz ob (.dT lkv))) := Tups.frz hon
    have s3 : Same H (upd H2 on (.frz ob (.dT lkv))) := s02.put gonH
    have hf3 : upd H2 on (.frz ob (.dT lkv)) f = some (.dT mkv) := by rw [upd_ne hfo]; exact s2 _ _ hf1
    have hon3 : upd H2 on (.frz ob (.dT lkv)) on = some (.frz ob (.dT lkv)) := upd_same
    have fi3 := fi2.mono T3
    have hlk3 : Paired (LvAt (upd H2 on (.frz ob (.dT lkv)))) lkv ls := Paired.mapP hlk fun _ _ z => z.mono T3
    have hvs3 : Paired (KeyAt (upd H2 on (.frz ob (.dT lkv)))) vs lkv := Paired.mapP hvs fun _ _ ⟨b, e, hb⟩ => ⟨b, e, T3 _ _ hb⟩
    generalize upd H2 on (.frz ob (.dT lkv)) = H3 at T3 s3 hf3 hon3 fi3 hlk3 hvs3 ⊢
    refine for_dict (d := on) (o := ob) (u := .dT lkv) (ks := vs) (fun i σ H4 => ∃ (kvs : List (List Key × V)) (v3 v4 v5 v6 : Option V), σ = [some (.ref a), some (.ref f), some (.ref on), v3, v4, v5, v6] ∧ Same H H4 ∧ H4 on = some (.frz ob (.dT lkv)) ∧ Tups H3 H4 ∧ H4 f = some (.dT kvs) ∧ FI mls ls H4 kvs ∧ ∀ j x, j < i → ls[j]? = some x → (valV kvs (key2 x.1)).isSome = true)
      ⟨mkv, none, none, none, none, rfl, s3, hon3, Tups.refl H3, hf3, fi3, fun j x hj => by omega⟩ (fun i σ H4 _ ⟨_, _, _, _, _, _, _, h, _⟩ => h) ?_ ?_
    · rintro i y σ H4 hy ⟨kvs, v3, v4, v5, v6, rfl, s4, hon4, T4, hf4, fi4, hdone⟩
      obtain ⟨kv0, hkv0, b0', eb0, hb0⟩ := Paired.get? hvs3 hy
      subst eb0
      obtain ⟨x0, hx0, hx0k, _⟩ := Paired.get? hlk3 hkv0
      have hx0m : x0 ∈ ls := List.mem_of_getElem? hx0
      have hb04 : H4 b0' = some (.tup [.str x0.1.1, .str x0.1.2]) := by
        have := T4 _ _ hb0
        rw [hx0k] at this
        exact this
      refine ⟨(by show 0 ≤ sizeLine; decide), fun wy gwy => ?_⟩
      have s5 : Same H4 (upd H4 wy (.lst [])) := (Same.refl H4).new gwy
      have gwyH : H wy = none := s4.free gwy
      have hfw : f ≠ wy := fun z => by rw [z, gwy] at hf4; cases hf4
      have how : on ≠ wy := fun z => by rw [z, gwy] at hon4; cases hon4
      refine ⟨_, rfl, ?_⟩
      apply g_while
      · with_reducible_and_instances rfl
      refine while_by (fun σ H5 => ∃ (x : Kk) (b : Addr) (xs : List Kk) (ws : List V) (v3 v6 : Option V), σ = [some (.ref a), some (.ref f), some (.ref on), v3, some (.ref wy), some (.ref b), v6] ∧ Same H H5 ∧ H5 on = some (.frz ob (.dT lkv)) ∧ Tups H3 H5 ∧ H5 f = some (.dT kvs) ∧ FI mls ls H5 kvs ∧ H5 b = some (.tup [.str x.1, .str x.2]) ∧ (x ∈ mls.map (·.1) ∨ x ∈ ls.map (·.1)) ∧ H5 wy = some (.lst ws) ∧ Paired (OwAt H5) ws xs ∧ (∀ y ∈ xs, y ∈ ls.map (·.1) ∧ r x < r y ∧ ∀ p, Mk mls ls x p → Mk mls ls y p) ∧ xs.Nodup ∧ (x = x0.1 ∨ x0.1 ∈ xs)) (fun σ H5 => muM r 5 σ H5)
        ⟨x0.1, b0', [], [], _, _, rfl, s4.trans s5, s5 _ _ hon4, T4.trans s5.tups, s5 _ _ hf4, fi4.mono s5.tups, s5 _ _ hb04, .inr (List.mem_map_of_mem (f := (·.1)) hx0m), upd_same, .nil, fun y hy => by simp at hy, by simp, .inl rfl⟩ ?_ ?_
      · rintro σ H5 ⟨x, b, xs, ws, w3, w6, rfl, s6, hon5, T5, hf5, fi5, hb5, hxk, hwy5, hws, hxs, hxn, hst⟩
        refine ⟨_, rfl, _, rfl, f, _, rfl, DGet.t (k := key2 x) hf5 hb5, _, rfl, ?_⟩
        cases e : valV kvs (key2 x) with
        | none =>
          refine iteT ?_
          have hxl : x ∈ ls.map (·.1) := by
            rcases hxk with z | z
            · have := fi5.has x z
              rw [e] at this
              cases this
            · exact z
          obtain ⟨yx, hyx, eyx⟩ := List.mem_map.mp hxl
          obtain ⟨kvx, ⟨_, t', e1, e2⟩, e3⟩ := val_of (F := LvAt H3) (fun _ _ h => h.1) hlk3 hlkn hyx
          rw [eyx] at e3
          have hyx' : (x, yx.2) ∈ ls := by rw [← eyx]; exact hyx
          have hlt : r yx.2 < r x := hrk _ hyx'
          have hwl : ws.length ≤ 6720 := by
            rw [Paired.length hws]
            have h1 := nodup_lenG xs (ls.map (·.1)) hxn fun y hy => (hxs y hy).1
            rw [List.length_map] at h1
            omega
          refine ⟨_, rfl, .inl ⟨rfl, _, SqL.of hwy5⟩, _, rfl, wy, _, _, rfl, rfl, hwy5, szK (by omega), ?_⟩
          have T6 : Tups H5 (upd H5 wy (.lst (ws ++ [.ref b]))) := Tups.lst hwy5
          have hon6 : upd H5 wy (.lst (ws ++ [.ref b])) on = some (.frz ob (.dT lkv)) := by rw [upd_ne how]; exact hon5
          have hb6 := T6 _ _ hb5
          have hget : DGet (upd H5 wy (.lst (ws ++ [.ref b]))) on (.ref b) (some (.ref t')) := .inr ⟨lkv, key2 x, b, .inr ⟨ob, hon6⟩, rfl, hb6, by rw [e3, e1]⟩
          refine ⟨_, rfl, _, rfl, on, _, rfl, hget, ?_⟩
          have ht6 := T6 _ _ (T5 _ _ e2)
          refine ⟨⟨yx.2, t', xs ++ [x], ws ++ [.ref b], _, _, rfl, s6.put gwyH, hon6, T5.trans T6, by rw [upd_ne hfw]; exact hf5, fi5.mono T6, ht6, htgt hyx, upd_same, Paired.snoc (Paired.mapP hws fun _ _ z => z.mono T6) ⟨b, rfl, hb6⟩, fun y hy => ?_, ?_, ?_⟩, ?_⟩
          · rcases List.mem_append.mp hy with z | z
            · obtain ⟨h1, h2, h3⟩ := hxs y z
              exact ⟨h1, by omega, fun p hp => h3 p (.step hyx' hp)⟩
            · rw [List.mem_singleton.mp z]
              exact ⟨hxl, hlt, fun p hp => .step hyx' hp⟩
          · refine List.nodup_append.mpr ⟨hxn, by simp, fun y hy z hz w => ?_⟩
            rw [List.mem_singleton.mp hz] at w
            have := (hxs y hy).2.1
            rw [w] at this
            omega
          · rcases hst with z | z
            · rw [← z]; exact .inr (List.mem_append_right _ List.mem_cons_self)
            · exact .inr (List.mem_append_left _ z)
          · show muM r 5 [some (V.ref a), some (.ref f), some (.ref on), w3, some (.ref wy), some (.ref t'), w6] _ < muM r 5 [some (V.ref a), some (.ref f), some (.ref on), w3, some (.ref wy), some (.ref b), w6] H5
            have m1 : muM r 5 [some (V.ref a), some (.ref f), some (.ref on), w3, some (.ref wy), some (.ref t'), w6] (upd H5 wy (.lst (ws ++ [.ref b]))) = r yx.2 := by
              unfold muM
              simp only [List.getElem?_cons_succ, List.getElem?_cons_zero]
              rw [ht6]
            have m2 : muM r 5 [some (V.ref a), some (.ref f), some (.ref on), w3, some (.ref wy), some (.ref b), w6] H5 = r x := by
              unfold muM
              simp only [List.getElem?_cons_succ, List.getElem?_cons_zero]
              rw [hb5]
            rw [m1, m2]
            exact hlt
        | some v =>
          refine iteF ?_
          obtain ⟨t, p, ev, ht, hmk'⟩ := fi5.val x v e
          subst ev
          refine ⟨_, rfl, wy, rfl, ⟨_, SqL.of hwy5⟩, for_list (K := K) (a := wy) (xs := ws) (fun j σ H6 => ∃ (kv : List (List Key × V)) (v6 : Option V), σ = [some (.ref a), some (.ref f), some (.ref on), w3, some (.ref wy), some (.ref b), v6] ∧ Same H H6 ∧ H6 on = some (.frz ob (.dT lkv)) ∧ Tups H5 H6 ∧ H6 f = some (.dT kv) ∧ H6 wy = some (.lst ws) ∧ FI mls ls H6 kv ∧ valV kv (key2 x) = some (.ref t) ∧ (∀ y, (valV kvs (key2 y)).isSome = true → (valV kv (key2 y)).isSome = true) ∧ ∀ y ∈ xs.take j, (valV kv (key2 y)).isSome = true)
            ⟨kvs, _, rfl, s6, hon5, Tups.refl H5, hf5, hwy5, fi5, e, fun y hy => hy, fun y hy => by simp at hy⟩ (fun j σ H6 _ ⟨_, _, _, _, _, _, _, h, _⟩ => SqL.of h) ?_ ?_⟩
          · rintro j y σ H6 hy6 ⟨kv, u6, rfl, s7, hon6, T6, hf6, hwy6, fi6, hvx, hup, htk⟩
            obtain ⟨z, hz, bz, ez, hbz⟩ := Paired.get? hws hy6
            subst ez
            have hzm := List.mem_of_getElem? hz
            obtain ⟨hz1, _, hz3⟩ := hxs z hzm
            have hkl := fi6.len
            have hget : DGet H6 f (.ref b) (some (.ref t)) := by
              have h1 := DGet.t (k := key2 x) hf6 (T6 _ _ hb5)
              rw [hvx] at h1
              exact h1
            refine ⟨_, rfl, _, rfl, f, _, rfl, hget, _, rfl, _, rfl, f, _, rfl, DPut.t (k := key2 z) hf6 (T6 _ _ hbz) (szK (by omega)), ?_⟩
            have T7 := Tups.dT (kvs' := putK kv (key2 z) (.ref t)) hf6
            refine ⟨putK kv (key2 z) (.ref t), _, rfl, s7.put gf, by rw [upd_ne hfo.symm]; exact hon6, T6.trans T7, upd_same, by rw [upd_ne hfw.symm]; exact hwy6, (fi6.put (List.mem_append_right _ hz1) (T6 _ _ ht) (hz3 p hmk')).mono T7, ?_, fun y hy => ?_, fun y hy => ?_⟩
            · rw [valV_put]
              split
              · rfl
              · exact hvx
            · rw [valV_put]
              split
              · rfl
              · exact hup y hy
            · rw [take_succ_get hz] at hy
              rw [valV_put]
              rcases List.mem_append.mp hy with w | w
              · split
                · rfl
                · exact htk y w
              · rw [List.mem_singleton.mp w, if_pos rfl]
                rfl
          · rintro σ H6 ⟨kv, u6, rfl, s7, hon6, T6, hf6, hwy6, fi6, hvx, hup, htk⟩
            rw [Paired.length hws, List.take_length] at htk
            refine ⟨kv, _, _, _, _, rfl, s7, hon6, T5.trans T6, hf6, fi6, fun j y hj hy' => ?_⟩
            by_cases hji : j = i
            · subst hji
              rw [hx0] at hy'
              cases hy'
              rcases hst with z | z
              · rw [← z, hvx]; rfl
              · exact htk _ z
            · exact hup _ (hdone j y (by omega) hy')
      · rintro σ H5 Q1 Q2 hQ ⟨v, e, v2, e2, a2, o, e7, hg, c, e8, hq⟩
        exact ⟨v, e, v2, e2, a2, o, e7, hg, c, e8, hQ _ _ hq⟩
    · rintro σ H4 ⟨kvs, v3, v4, v5, v6, rfl, s4, hon4, T4, hf4, fi4, hdone⟩
      refine ⟨_, rfl, q f kvs H4 s4 hf4 fi4 fun x hx => ?_⟩
      obtain ⟨y, hy, ey⟩ := List.mem_map.mp hx
      obtain ⟨j, hj⟩ := List.getElem?_of_mem hy
      have hjl := (List.getElem?_eq_some_iff.mp hj).1
      rw [← ey]
      exact hdone j y (by omega) hj
noncomputable def spSumNames : Sp := fun vs H Q _ => ∃ (t : Addr) (ts : List (Int × Th)) (k : Int), vs = [.ref t, .int k] ∧ TermsAt H t ts ∧
  ∀ (p : Addr) (ws : List V) (H' : Hp), Same H H' → H' p = some (.tup ws) → Names H' ws (namesOf k ts) → Q (.ref p) H'
noncomputable def spSumWords : Sp := fun vs H Q _ => ∃ (t : Addr) (ts : List (Int × Th)), vs = [.ref t] ∧ TermsAt H t ts ∧
  ∀ (p : Addr) (ws : List V) (H' : Hp), Same H H' → H' p = some (.tup ws) → ws.length + 1 = 2 * ts.length → Q (.ref p) H'
noncomputable def spWhenWords : Sp := fun vs H Q _ => ∃ x : Str, vs = [.str x] ∧
  ∀ (p : Addr) (ws : List V) (H' : Hp), Same H H' → H' p = some (.tup ws) → ws.length = 2 → Q (.ref p) H'
noncomputable def WhenRow (H : Hp) (r : Addr) (x : Str) (n : Int) : Prop :=
  (∃ t ts, H r = some (.tup [.str "say", .ref t, .str x]) ∧ TermsAt H t ts ∧ n = 2 * (ts.length : Int) + 1) ∨ (∃ part : Str, H r = some (.tup [.str "ask", .str part, .str x]) ∧ n = 3)
noncomputable def spWordsOf : Sp := fun vs H Q _ => ∃ (r : Addr) (x : Str) (n : Int), vs = [.ref r] ∧ WhenRow H r x n ∧
  ∀ (p : Addr) (ws : List V) (H' : Hp), Same H H' → H' p = some (.tup ws) → (ws.length : Int) = n + 1 → Q (.ref p) H'
noncomputable def spWhenNames : Sp := fun vs H Q _ => ∃ (r : Addr) (ds : List (Int × Str)), vs = [.ref r] ∧
  ((∃ (x : Str) (n : Int), WhenRow H r x n ∧ ds = [(n, x)]) ∨ (∃ (k : Str) (v : V), H r = some (.tup [.str k, v, .non]) ∧ ds = [])) ∧
  ∀ (p : Addr) (ws : List V) (H' : Hp), Same H H' → H' p = some (.tup ws) → Names H' ws ds → Q (.ref p) H'
noncomputable def RdAt (H : Hp) (r : Addr) (ds : List (Int × Str)) : Prop :=
  (∃ (own : Str) (t : Addr) (ts : List (Int × Th)), H r = some (.tup [.str "set", .str own, .ref t]) ∧ TermsAt H t ts ∧ ds = namesOf 3 ts) ∨
  (∃ (t : Addr) (ts : List (Int × Th)), H r = some (.tup [.str "need", .ref t]) ∧ TermsAt H t ts ∧ ds = namesOf 1 ts) ∨
  (∃ (t : Addr) (ts : List (Int × Th)), H r = some (.tup [.str "say", .ref t, .non]) ∧ TermsAt H t ts ∧ ds = namesOf 1 ts) ∨
  (∃ (t : Addr) (ts : List (Int × Th)) (x : Str), H r = some (.tup [.str "say", .ref t, .str x]) ∧ TermsAt H t ts ∧ ds = (2 * (ts.length : Int) + 1, x) :: namesOf 1 ts) ∨
  (∃ part x : Str, H r = some (.tup [.str "ask", .str part, .str x]) ∧ ds = [(3, x)]) ∨
  (∃ part : Str, H r = some (.tup [.str "ask", .str part, .non]) ∧ ds = []) ∨
  (∃ (k : Str) (more : List V), H r = some (.tup (.str k :: more)) ∧ (¬ k = "set" ∧ ¬ k = "need" ∧ ¬ k = "say" ∧ ¬ k = "ask") ∧ ds = [])
noncomputable def spReadNames : Sp := fun vs H Q _ => ∃ (r : Addr) (ds : List (Int × Str)), vs = [.ref r] ∧ RdAt H r ds ∧
  ∀ (p : Addr) (ws : List V) (H' : Hp), Same H H' → H' p = some (.tup ws) → Names H' ws ds → Q (.ref p) H'
theorem names_append {H : Hp} : ∀ {ws us : List V} {ds es : List (Int × Str)}, Names H ws ds → Names H us es → Names H (ws ++ us) (ds ++ es)
  | _, _, _, _, .nil, s => s
  | _, _, _, _, .cons r t, s => .cons r (names_append t s)
theorem ok_sum_names (T : Txt K mg) : L2.Cl P w K mg base 1 "sum_names" ["terms", "first"] spSumNames := by
  refine Cl.of T.d_sum_names sc_sum_names (fun vs H Q E h => ?_) (fun _ _ _ _ _ _ us hl => len2 us hl (fun _ _ => rfl)) (fun f cdv A outer s H vs Q E hr h => ?_)
  · obtain ⟨t, ts, k, rfl, _⟩ := h
    rfl
  · obtain ⟨t, ts, k, rfl, ⟨⟨vs, ht, hts⟩, lo, hi⟩, q⟩ := h
    have hvl : vs.length = ts.length := Paired.length hts
    refine ⟨_, (pss_cons (ps_set (i := 2) sc_sum_names.nd rfl (Or.inl rfl) (pe_lst pa_nil))
      (pss_cons (ps_for PassesOwn.never rfl (pi_enumT (by rfl) T.n_enumerate (pa_cons (pv 0) pa_nil)) (pg_tup rfl (pgs_cons (pg_name (i := 3) sc_sum_names.nd rfl (Or.inl rfl)) (pgs_cons (pg_name (i := 4) sc_sum_names.nd rfl (Or.inl rfl)) pgs_nil)))
        (pss_one (ps_if (pt_val (pe_callB call_isinst (by rfl) T.n_isinstance PyProof.Rows.boot_isinstance (pa_cons (pe_ix ix_tup (pv 4) pe_int (fun _ _ => rfl)) (pa_cons (pe_bltn (v := .ty "str") (by rfl) T.n_str boot_str rfl) pa_nil))))
          (pss_one (ps_expr (pe_bm PySem.F.plainAttrs_list PySem.F.slot_list_append PySem.F.type_list_append mt_append (pv 2) (pa_cons (pe_tup (pa_cons (pe_op op_add (pv 1) (pe_op op_mul pe_int (pv 3))) (pa_cons (pe_ix ix_tup (pv 4) pe_int (fun _ _ => rfl)) pa_nil))) pa_nil)))) pss_nil)))
      (pss_one (ps_ret (pe_callTy call_tuple_of (by rfl) T.n_tuple boot_tuple (pa_cons (pv 2) pa_nil)))))), ?_⟩
    refine ⟨(by show 0 ≤ sizeLine; decide), fun l hl => ?_⟩
    have s1 : Same H (upd H l (.lst [])) := (Same.refl H).new hl
    refine ⟨_, rfl, t, rfl, ⟨_, SqT.of (s1 _ _ ht)⟩, for_enum (K := K) (a := t) (xs := vs) (fun i σ H2 => ∃ (ws : List V) (v3 v4 : Option V), σ = [some (.ref t), some (.int k), some (.ref l), v3, v4] ∧ Same H H2 ∧ H2 l = some (.lst ws) ∧ Names H2 ws (namesOf k (ts.take i)) ∧ ws.length ≤ i)
      ⟨[], none, none, rfl, s1, upd_same, .nil, Nat.le_refl _⟩ (fun i σ H2 _ ⟨_, _, _, _, s2, _⟩ => SqT.of (s2 _ _ ht)) ?_ ?_⟩
    · rintro i y pe σ H2 hx ⟨ws, v3, v4, rfl, s2, hl2, hn, hwl⟩ hpe
      have hi' : i < vs.length := (List.getElem?_eq_some_iff.mp hx).1
      obtain ⟨tm, htm, p, ep, hp, hok⟩ := Paired.get? hts hx
      subst ep
      have s3 := s2.new (o := .tup [.int i, .ref p]) hpe
      have hl3 := upd_keep (o := .tup [.int i, .ref p]) hl2 hpe
      have hn3 : Names (upd H2 pe (.tup [.int i, .ref p])) ws (namesOf k (ts.take i)) := hn.mono (Tups.new hpe)
      have hp3 := s3 _ _ hp
      refine ⟨pe, _, rfl, SqT.of upd_same, rfl, _, _, rfl, _, _, rfl, rfl, ?_⟩
      obtain ⟨sg, th⟩ := tm
      cases th with
      | num n =>
        refine ⟨_, rfl, p, _, _, _, rfl, rfl, SqT.of hp3, rfl, _, _, _, _, rfl, .int n, kit_int_str _, _, rfl, iteF ?_⟩
        refine ⟨ws, _, _, rfl, s3, hl3, ?_, by omega⟩
        rw [take_succ_get htm, namesOf_append]
        simpa [L2.namesOf] using hn3
      | nam x =>
        refine ⟨_, rfl, p, _, _, _, rfl, rfl, SqT.of hp3, rfl, _, _, _, _, rfl, .str x, kit_same _ _, _, rfl, iteT ?_⟩
        refine ⟨_, rfl, .inl ⟨rfl, _, SqL.of hl3⟩, _, rfl, _, rfl, _, _, rfl, rfl, .inl ⟨by decide, by decide⟩, _, _, rfl, rfl, _, rfl, p, _, _, _, rfl, rfl, SqT.of hp3, rfl, (by show 2 ≤ sizeLine; decide), fun p2 hp2' => ?_⟩
        refine ⟨l, _, _, rfl, rfl, upd_keep hl3 hp2', small1000 (by omega), ?_⟩
        refine ⟨_, _, _, rfl, (s3.new hp2').put hl, upd_same, ?_, by simp; omega⟩
        rw [take_succ_get htm, namesOf_append]
        refine Paired.snoc ((hn3.mono (Tups.new hp2')).mono (Tups.lst (upd_keep hl3 hp2'))) ⟨p2, rfl, ?_⟩
        rw [upd_ne (ne_of_none hl3 hp2').symm, upd_same]
        have e : (ts.take i).length = i := by simp; omega
        show some (HO.tup [V.int (k + 2 * (i : Int)), V.str x]) = some (HO.tup [V.int (k + 2 * ((ts.take i).length : Int)), V.str x])
        rw [e]
    · rintro σ H2 ⟨ws, v3, v4, rfl, s2, hl2, hn, hwl⟩
      refine ⟨_, rfl, l, _, rfl, .inl ⟨SqL.of hl2, fun p hp => ?_⟩⟩
      refine q p ws _ (s2.new hp) upd_same ?_
      rw [hvl, List.take_length] at hn
      exact hn.mono (Tups.new hp)
theorem ok_sum_words (T : Txt K mg) : L2.Cl P w K mg base 1 "sum_words" ["terms"] spSumWords := by
  refine Cl.of T.d_sum_words sc_sum_words (fun vs H Q E h => ?_) (fun _ _ _ _ _ _ us hl => len1 us hl (fun _ => rfl)) (fun f cdv A outer s H vs Q E hr h => ?_)
  · obtain ⟨t, ts, rfl, _⟩ := h
    rfl
  · obtain ⟨t, ts, rfl, ⟨⟨vs, ht, hts⟩, lo, hi⟩, q⟩ := h
    have hvl : vs.length = ts.length := Paired.length hts
    refine ⟨_, (pss_cons (ps_set (i := 1) sc_sum_words.nd rfl (Or.inl rfl) (pe_lst pa_nil))
      (pss_cons (ps_for PassesOwn.never rfl (pi_tup (pv 0)) (pg_tup rfl (pgs_cons (pg_name (i := 2) sc_sum_words.nd rfl (Or.inl rfl)) (pgs_cons (pg_name (i := 3) sc_sum_words.nd rfl (Or.inl rfl)) pgs_nil)))
        (pss_cons (ps_if (pt_truth (pv 1) (fun _ => rfl))
          (pss_one (ps_expr (pe_bm PySem.F.plainAttrs_list PySem.F.slot_list_append PySem.F.type_list_append mt_append (pv 1) (pa_cons (pe_ifExp (pt_cmpR op_eq (pv 2) pe_int (nomark _)) pe_str pe_str) pa_nil)))) pss_nil)
        (pss_one (ps_expr (pe_bm PySem.F.plainAttrs_list PySem.F.slot_list_append PySem.F.type_list_append mt_append (pv 1) (pa_cons (pe_callTy (call_str_int.or call_str_str) (by rfl) T.n_str boot_str (pa_cons (pv 3) pa_nil)) pa_nil))))))
      (pss_one (ps_ret (pe_callTy call_tuple_of (by rfl) T.n_tuple boot_tuple (pa_cons (pv 1) pa_nil)))))), ?_⟩
    refine ⟨(by show 0 ≤ sizeLine; decide), fun l hl => ?_⟩
    have s1 : Same H (upd H l (.lst [])) := (Same.refl H).new hl
    refine ⟨_, rfl, t, rfl, ⟨_, SqT.of (s1 _ _ ht)⟩, for_tup (K := K) (a := t) (xs := vs) (fun i σ H2 => ∃ (ws : List V) (v2 v3 : Option V), σ = [some (.ref t), some (.ref l), v2, v3] ∧ Same H H2 ∧ H2 l = some (.lst ws) ∧ ((i = 0 ∧ ws = []) ∨ (1 ≤ i ∧ ws.length + 1 = 2 * i)))
      ⟨[], none, none, rfl, s1, upd_same, .inl ⟨rfl, rfl⟩⟩ (fun i σ H2 _ ⟨_, _, _, _, s2, _⟩ => SqT.of (s2 _ _ ht)) ?_ ?_⟩
    · rintro i y σ H2 hx ⟨ws, v2, v3, rfl, s2, hl2, hw⟩
      have hi' : i < vs.length := (List.getElem?_eq_some_iff.mp hx).1
      obtain ⟨tm, htm, p, ep, hp, hok⟩ := Paired.get? hts hx
      subst ep
      have hp2 := s2 _ _ hp
      refine ⟨p, _, rfl, SqT.of hp2, rfl, _, _, rfl, _, _, rfl, rfl, ?_⟩
      have fin : ∀ (ws' : List V) (H3 : Hp) (σ' : L2.St), (∃ v2 v3 : Option V, σ' = [some (.ref t), some (.ref l), v2, some (thV tm.2)]) → Same H H3 → H3 l = some (.lst ws') → ws'.length + 2 = 2 * (i + 1) → ws'.length ≤ 20 →
          tDrop (tBM K "list" rAppend (tVar 1) (tCons (tCB (fun xs H Q => (∃ i, xs = [.int i] ∧ i.natAbs.log2 < 1920 ∧ Q (.str (toString i)) H) ∨ ∃ x, xs = [.str x] ∧ Q (.str x) H) (tCons (tVar 3) tNil)) tNil))
            { nx := fun σ H2 => ∃ (ws : List V) (v2 v3 : Option V), σ = [some (.ref t), some (.ref l), v2, v3] ∧ Same H H2 ∧ H2 l = some (.lst ws) ∧ ((i + 1 = 0 ∧ ws = []) ∨ (1 ≤ i + 1 ∧ ws.length + 1 = 2 * (i + 1))), rt := fun _ _ => False } σ' H3 := by
        rintro ws' H3 σ' ⟨v2, v3, rfl⟩ s3 hl3 e1 e2
        refine ⟨_, rfl, .inl ⟨rfl, _, SqL.of hl3⟩, _, rfl, ?_⟩
        obtain ⟨sg, th⟩ := tm
        cases th with
        | num n =>
          refine .inl ⟨n, rfl, ?_, ?_⟩
          · have h1 : (0 : Int) ≤ n := hok.1
            have h2 : n < 10 ^ 60 := hok.2
            have h3 : n.natAbs < 2 ^ 1920 := by
              have : n.natAbs < 10 ^ 60 := by omega
              exact Nat.lt_of_lt_of_le this (by decide)
            by_cases hz : n.natAbs = 0
            · rw [hz]; decide
            · exact (Nat.log2_lt hz).mpr h3
          · exact ⟨l, _, _, rfl, rfl, hl3, small1000 (by omega), _, _, _, rfl, s3.put hl, upd_same, .inr ⟨by omega, by simp; omega⟩⟩
        | nam x => exact .inr ⟨x, rfl, l, _, _, rfl, rfl, hl3, small1000 (by omega), _, _, _, rfl, s3.put hl, upd_same, .inr ⟨by omega, by simp; omega⟩⟩
      rcases hw with ⟨rfl, rfl⟩ | ⟨hi1, hw⟩
      · refine ⟨_, rfl, _, .inl ⟨_, SqL.of hl2, rfl⟩, iteF ?_⟩
        exact fin [] H2 _ ⟨_, none, rfl⟩ s2 hl2 rfl (by decide)
      · have hne : ws ≠ [] := by rintro rfl; simp at hw; omega
        refine ⟨_, rfl, _, .inl ⟨_, SqL.of hl2, rfl⟩, ?_⟩
        rw [show (!ws.isEmpty) = true by cases ws with | nil => exact absurd rfl hne | cons _ _ => rfl]
        refine iteT ?_
        refine ⟨_, rfl, .inl ⟨rfl, _, SqL.of hl2⟩, _, rfl, rfl, _, rfl, ite2 (fun _ => ?_) (fun _ => ?_)⟩
        all_goals
          refine ⟨l, _, _, rfl, rfl, hl2, small1000 (by omega), ?_⟩
          refine fin _ _ _ ⟨_, none, rfl⟩ (s2.put hl) upd_same ?_ ?_
          · rw [List.length_append]; simp only [List.length_cons, List.length_nil]; omega
          · rw [List.length_append]; simp only [List.length_cons, List.length_nil]; omega
    · rintro σ H2 ⟨ws, v2, v3, rfl, s2, hl2, hw⟩
      refine ⟨_, rfl, l, _, rfl, .inl ⟨SqL.of hl2, fun p hp => ?_⟩⟩
      refine q p ws _ (s2.new hp) upd_same ?_
      rcases hw with ⟨e, _⟩ | ⟨_, e⟩
      · omega
      · omega
theorem ok_when_words (T : Txt K mg) : L2.Cl P w K mg base 1 "when_words" ["when"] spWhenWords := by
  refine Cl.of T.d_when_words sc_when_words (fun vs H Q E h => ?_) (fun _ _ _ _ _ _ us hl => len1 us hl (fun _ => rfl)) (fun f cdv A outer s H vs Q E hr h => ?_)
  · obtain ⟨x, rfl, _⟩ := h
    rfl
  · obtain ⟨x, rfl, q⟩ := h
    refine ⟨_, (pss_cons (ps_if (pt_cmp (pc_isN (pv 0)))
        (pss_one (ps_ret (pe_tup pa_nil))) pss_nil)
      (pss_one (ps_ret (pe_tup (pa_cons pe_str (pa_cons (pv 0) pa_nil)))))), ?_⟩
    refine ⟨_, rfl, _, rfl, iteF ?_⟩
    exact ⟨_, rfl, (by show 2 ≤ sizeLine; decide), fun p hp => q p _ _ ((Same.refl H).new hp) upd_same rfl⟩
theorem ok_pair_words (T : Txt K mg) : L2.Cl P w K mg base 1 "pair_words" ["pairs"] (fun _ _ _ _ => False) :=
  Cl.of T.d_pair_words sc_pair_words (fun _ _ _ _ h => h.elim) (fun _ _ _ _ _ _ us hl => len1 us hl (fun _ => rfl)) (fun _ _ _ _ _ _ _ _ _ _ h => h.elim)
theorem ok_words_of (T : Txt K mg) : L2.Cl P w K mg base 2 "words_of" ["row"] spWordsOf := by
  have C_pair_words := ok_pair_words (P := P) (w := w) (base := base) T
  have C_sum_words := ok_sum_words (P := P) (w := w) (base := base) T
  have C_when_words := ok_when_words (P := P) (w := w) (base := base) T
  refine Cl.of T.d_words_of sc_words_of (fun vs H Q E h => ?_) (fun _ _ _ _ _ _ us hl => len1 us hl (fun _ => rfl)) (fun f cdv A outer s H vs Q E hr h => ?_)
  · obtain ⟨r, x, n, rfl, _⟩ := h
    rfl
  · obtain ⟨r, x, n, rfl, hrow, q⟩ := h
    refine ⟨_, (pss_cons (ps_set (i := 1) sc_words_of.nd rfl (Or.inl rfl) (pe_ix ix_tup (pv 0) pe_int (fun _ _ => rfl)))
      (pss_cons (ps_if (pt_cmpR op_eq (pv 1) pe_str (nomark _))
        (pss_one (ps_ret (pe_op op_catA (pe_tup (pa_cons pe_str (pa_cons (pe_ix ix_tup (pv 0) pe_int (fun _ _ => rfl)) pa_nil))) (pe_fn C_pair_words hr (by rfl) (pa_cons (pe_ix ix_tup (pv 0) pe_int (fun _ _ => rfl)) pa_nil))))) pss_nil)
      (pss_cons (ps_if (pt_cmpR op_eq (pv 1) pe_str (nomark _))
        (pss_one (ps_ret (pe_tup (pa_cons pe_str (pa_cons (pe_ix ix_tup (pv 0) pe_int (fun _ _ => rfl)) (pa_cons pe_str (pa_cons (pe_ix ix_tup (pv 0) pe_int (fun _ _ => rfl)) pa_nil))))))) pss_nil)
      (pss_cons (ps_if (pt_cmpR op_eq (pv 1) pe_str (nomark _))
        (pss_one (ps_ret (pe_op op_catA (pe_tup (pa_cons pe_str (pa_cons (pe_ix ix_tup (pv 0) pe_int (fun _ _ => rfl)) (pa_cons pe_str pa_nil)))) (pe_fn C_sum_words hr (by rfl) (pa_cons (pe_ix ix_tup (pv 0) pe_int (fun _ _ => rfl)) pa_nil))))) pss_nil)
      (pss_cons (ps_if (pt_cmpR op_eq (pv 1) pe_str (nomark _))
        (pss_one (ps_ret (pe_op op_catA (pe_op op_catA (pe_tup (pa_cons pe_str pa_nil)) (pe_fn C_sum_words hr (by rfl) (pa_cons (pe_ix ix_tup (pv 0) pe_int (fun _ _ => rfl)) pa_nil))) (pe_fn C_when_words hr (by rfl) (pa_cons (pe_ix ix_tup (pv 0) pe_int (fun _ _ => rfl)) pa_nil))))) pss_nil)
      (pss_cons (ps_if (pt_cmpR op_eq (pv 1) pe_str (nomark _))
        (pss_one (ps_ret (pe_op op_catA (pe_tup (pa_cons pe_str pa_nil)) (pe_fn C_sum_words hr (by rfl) (pa_cons (pe_ix ix_tup (pv 0) pe_int (fun _ _ => rfl)) pa_nil))))) pss_nil)
      (pss_cons (ps_if (pt_cmpR op_eq (pv 1) pe_str (nomark _))
        (pss_one (ps_ret (pe_op op_catA (pe_tup (pa_cons pe_str (pa_cons (pe_ix ix_tup (pv 0) pe_int (fun _ _ => rfl)) pa_nil))) (pe_fn C_when_words hr (by rfl) (pa_cons (pe_ix ix_tup (pv 0) pe_int (fun _ _ => rfl)) pa_nil))))) pss_nil)
      (pss_one (ps_ret (pe_tup (pa_cons (pv 1) (pa_cons (pe_ix ix_tup (pv 0) pe_int (fun _ _ => rfl)) pa_nil)))))))))))), ?_⟩
    rcases hrow with ⟨t, ts, hr0, hts, en⟩ | ⟨part, hr0, en⟩
    · refine ⟨_, rfl, r, _, _, _, rfl, rfl, SqT.of hr0, rfl, ?_⟩
      refine ⟨_, rfl, rfl, _, rfl, iteSN (by decide +kernel) ?_⟩
      refine ⟨_, rfl, rfl, _, rfl, iteSN (by decide +kernel) ?_⟩
      refine ⟨_, rfl, rfl, _, rfl, iteSN (by decide +kernel) ?_⟩
      refine ⟨_, rfl, rfl, _, rfl, iteSE ?_⟩
      refine ⟨(by show 1 ≤ sizeLine; decide), fun p1 hp1 => ?_⟩
      have s1 : Same H (upd H p1 (.tup [.str "say"])) := (Same.refl H).new hp1
      refine ⟨_, rfl, r, _, _, _, rfl, rfl, SqT.of (s1 _ _ hr0), rfl, t, ts, rfl, hts.mono s1.tups, fun p2 ws H2 s2 h2 e2 => ?_⟩
      have hw : ws ≠ [] := by rintro rfl; have := hts.lo; simp at e2; omega
      have hz := hts.hi
      refine ⟨p1, p2, _, _, rfl, rfl, SqT.of (s2 _ _ upd_same), SqT.of h2, (by show 1 + ws.length ≤ sizeLine; exact Nat.le_of_lt (small1000 (by omega))), (fun z => by cases z), (fun _ z => absurd z hw), fun _ _ p3 hp3 => ?_⟩
      have s3 : Same H (upd H2 p3 (.tup ([.str "say"] ++ ws))) := (s1.trans s2).new hp3
      refine ⟨_, rfl, r, _, _, _, rfl, rfl, SqT.of (s3 _ _ hr0), rfl, x, rfl, fun p4 us H4 s4 h4 e4 => ?_⟩
      have hu : us ≠ [] := by rintro rfl; simp at e4
      refine ⟨p3, p4, _, _, rfl, rfl, SqT.of (s4 _ _ upd_same), SqT.of h4, (by simp only [List.length_append, List.length_cons, List.length_nil]; exact Nat.le_of_lt (small1000 (by omega))), (fun z => by cases z), (fun _ z => absurd z hu), fun _ _ p5 hp5 => ?_⟩
      refine q p5 _ _ ((s3.trans s4).new hp5) upd_same ?_
      simp only [List.length_append, List.length_cons, List.length_nil]
      omega
    · refine ⟨_, rfl, r, _, _, _, rfl, rfl, SqT.of hr0, rfl, ?_⟩
      refine ⟨_, rfl, rfl, _, rfl, iteSN (by decide +kernel) ?_⟩
      refine ⟨_, rfl, rfl, _, rfl, iteSN (by decide +kernel) ?_⟩
      refine ⟨_, rfl, rfl, _, rfl, iteSN (by decide +kernel) ?_⟩
      refine ⟨_, rfl, rfl, _, rfl, iteSN (by decide +kernel) ?_⟩
      refine ⟨_, rfl, rfl, _, rfl, iteSN (by decide +kernel) ?_⟩
      refine ⟨_, rfl, rfl, _, rfl, iteSE ?_⟩
      refine ⟨_, rfl, r, _, _, _, rfl, rfl, SqT.of hr0, rfl, (by show 2 ≤ sizeLine; decide), fun p1 hp1 => ?_⟩
      have s1 : Same H (upd H p1 (.tup [.str "ask", .str part])) := (Same.refl H).new hp1
      refine ⟨_, rfl, r, _, _, _, rfl, rfl, SqT.of (s1 _ _ hr0), rfl, x, rfl, fun p4 us H4 s4 h4 e4 => ?_⟩
      have hu : us ≠ [] := by rintro rfl; simp at e4
      refine ⟨p1, p4, _, _, rfl, rfl, SqT.of (s4 _ _ upd_same), SqT.of h4, (by simp only [List.length_append, List.length_cons, List.length_nil]; exact Nat.le_of_lt (small1000 (by omega))), (fun z => by cases z), (fun _ z => absurd z hu), fun _ _ p5 hp5 => ?_⟩
      refine q p5 _ _ ((s1.trans s4).new hp5) upd_same ?_
      simp only [List.length_append, List.length_cons, List.length_nil]
      omega
theorem WhenRow.get {H : Hp} {r : Addr} {x : Str} {n : Int} (h : WhenRow H r x n) : ∃ (k : Str) (v : V), H r = some (.tup [.str k, v, .str x]) := by
  rcases h with ⟨t, ts, h, _⟩ | ⟨part, h, _⟩
  · exact ⟨_, _, h⟩
  · exact ⟨_, _, h⟩
theorem ok_when_names (T : Txt K mg) : L2.Cl P w K mg base 3 "when_names" ["row"] spWhenNames := by
  have C_words_of := ok_words_of (P := P) (w := w) (base := base) T
  refine Cl.of T.d_when_names sc_when_names (fun vs H Q E h => ?_) (fun _ _ _ _ _ _ us hl => len1 us hl (fun _ => rfl)) (fun f cdv A outer s H vs Q E hr h => ?_)
  · obtain ⟨r, ds, rfl, _⟩ := h
    rfl
  · obtain ⟨r, ds, rfl, hrow, q⟩ := h
    refine ⟨_, (pss_cons (ps_if (pt_cmp (pc_isN (pe_ix ix_tup (pv 0) pe_int (fun _ _ => rfl))))
        (pss_one (ps_ret (pe_tup pa_nil))) pss_nil)
      (pss_one (ps_ret (pe_tup (pa_cons (pe_tup (pa_cons (pe_op op_sub (pe_callB call_len_seq (by rfl) T.n_len PySem.boot_len (pa_cons (pe_fn C_words_of hr (by rfl) (pa_cons (pv 0) pa_nil)) pa_nil)) pe_int) (pa_cons (pe_ix ix_tup (pv 0) pe_int (fun _ _ => rfl)) pa_nil))) pa_nil))))), ?_⟩
    rcases hrow with ⟨x, n, hw, rfl⟩ | ⟨k, v, hr0, rfl⟩
    · obtain ⟨k, v, hr0⟩ := hw.get
      refine ⟨_, rfl, r, _, _, _, rfl, rfl, SqT.of hr0, rfl, _, rfl, iteF ?_⟩
      refine ⟨_, rfl, r, x, n, rfl, hw, fun p1 ws H1 s1 h1 e1 => ?_⟩
      refine ⟨p1, ws, rfl, .inr (SqT.of h1), _, _, rfl, rfl, _, rfl, r, _, _, _, rfl, rfl, SqT.of (s1 _ _ hr0), rfl, (by show 2 ≤ sizeLine; decide), fun p2 hp2 => ⟨(by show 1 ≤ sizeLine; decide), fun p3 hp3 => ?_⟩⟩
      refine q p3 _ _ ((s1.new hp2).new hp3) upd_same (.cons ⟨p2, rfl, ?_⟩ .nil)
      rw [upd_keep upd_same hp3]
      have e : (ws.length : Int) - 1 = n := by omega
      show some (HO.tup [V.int ((ws.length : Int) - 1), V.str x]) = _
      rw [e]
    · refine ⟨_, rfl, r, _, _, _, rfl, rfl, SqT.of hr0, rfl, _, rfl, iteT ?_⟩
      exact ⟨(by show 0 ≤ sizeLine; decide), fun p hp => q p _ _ ((Same.refl H).new hp) upd_same .nil⟩
theorem ok_read_names (T : Txt K mg) : L2.Cl P w K mg base 4 "read_names" ["row"] spReadNames := by
  have C_sum_names := ok_sum_names (P := P) (w := w) (base := base) T
  have C_when_names := ok_when_names (P := P) (w := w) (base := base) T
  refine Cl.of T.d_read_names sc_read_names (fun vs H Q E h => ?_) (fun _ _ _ _ _ _ us hl => len1 us hl (fun _ => rfl)) (fun f cdv A outer s H vs Q E hr h => ?_)
  · obtain ⟨r, ds, rfl, _⟩ := h
    rfl
  · obtain ⟨r, ds, rfl, hrow, q⟩ := h
    refine ⟨_, (pss_cons (ps_set (i := 1) sc_read_names.nd rfl (Or.inl rfl) (pe_ix ix_tup (pv 0) pe_int (fun _ _ => rfl)))
      (pss_cons (ps_if (pt_cmpR op_eq (pv 1) pe_str (nomark _))
        (pss_one (ps_ret (pe_fn C_sum_names hr (by rfl) (pa_cons (pe_ix ix_tup (pv 0) pe_int (fun _ _ => rfl)) (pa_cons pe_int pa_nil))))) pss_nil)
      (pss_cons (ps_if (pt_cmpR op_eq (pv 1) pe_str (nomark _))
        (pss_one (ps_ret (pe_fn C_sum_names hr (by rfl) (pa_cons (pe_ix ix_tup (pv 0) pe_int (fun _ _ => rfl)) (pa_cons pe_int pa_nil))))) pss_nil)
      (pss_cons (ps_if (pt_cmpR op_eq (pv 1) pe_str (nomark _))
        (pss_one (ps_ret (pe_op op_catA (pe_fn C_when_names hr (by rfl) (pa_cons (pv 0) pa_nil)) (pe_fn C_sum_names hr (by rfl) (pa_cons (pe_ix ix_tup (pv 0) pe_int (fun _ _ => rfl)) (pa_cons pe_int pa_nil)))))) pss_nil)
      (pss_cons (ps_if (pt_cmpR op_eq (pv 1) pe_str (nomark _))
        (pss_one (ps_ret (pe_fn C_when_names hr (by rfl) (pa_cons (pv 0) pa_nil)))) pss_nil)
      (pss_one (ps_ret (pe_tup pa_nil)))))))), ?_⟩
    rcases hrow with ⟨own, t, ts, h1, h2, rfl⟩ | ⟨t, ts, h1, h2, rfl⟩ | ⟨t, ts, h1, h2, rfl⟩ | ⟨t, ts, x, h1, h2, rfl⟩ | ⟨part, x, h1, rfl⟩ | ⟨part, h1, rfl⟩ | ⟨k, more, h1, ⟨n1, n2, n3, n4⟩, rfl⟩
    · refine ⟨_, rfl, r, _, _, _, rfl, rfl, SqT.of h1, rfl, ?_⟩
      refine ⟨_, rfl, rfl, _, rfl, iteSE ?_⟩
      exact ⟨_, rfl, r, _, _, _, rfl, rfl, SqT.of h1, rfl, t, ts, 3, rfl, h2, q⟩
    · refine ⟨_, rfl, r, _, _, _, rfl, rfl, SqT.of h1, rfl, ?_⟩
      refine ⟨_, rfl, rfl, _, rfl, iteSN (by decide +kernel) ?_⟩
      refine ⟨_, rfl, rfl, _, rfl, iteSE ?_⟩
      exact ⟨_, rfl, r, _, _, _, rfl, rfl, SqT.of h1, rfl, t, ts, 1, rfl, h2, q⟩
    · refine ⟨_, rfl, r, _, _, _, rfl, rfl, SqT.of h1, rfl, ?_⟩
      refine ⟨_, rfl, rfl, _, rfl, iteSN (by decide +kernel) ?_⟩
      refine ⟨_, rfl, rfl, _, rfl, iteSN (by decide +kernel) ?_⟩
      refine ⟨_, rfl, rfl, _, rfl, iteSE ?_⟩
      refine ⟨_, rfl, r, [], rfl, .inr ⟨_, _, h1, rfl⟩, fun p1 ws H1 s1 g1 m1 => ?_⟩
      cases m1
      refine ⟨_, rfl, r, _, _, _, rfl, rfl, SqT.of (s1 _ _ h1), rfl, t, ts, 1, rfl, h2.mono s1.tups, fun p2 us H2 s2 g2 m2 => ?_⟩
      have e2 : us.length = (namesOf 1 ts).length := Paired.length m2
      have := namesOf_length ts 1
      have := h2.hi
      exact ⟨p1, p2, _, _, rfl, rfl, SqT.of (s2 _ _ g1), SqT.of g2, (by show 0 + us.length ≤ sizeLine; exact Nat.le_of_lt (small1000 (by omega))), (fun _ => q p2 us H2 (s1.trans s2) g2 m2), (fun z => absurd rfl z), fun z => absurd rfl z⟩
    · refine ⟨_, rfl, r, _, _, _, rfl, rfl, SqT.of h1, rfl, ?_⟩
      refine ⟨_, rfl, rfl, _, rfl, iteSN (by decide +kernel) ?_⟩
      refine ⟨_, rfl, rfl, _, rfl, iteSN (by decide +kernel) ?_⟩
      refine ⟨_, rfl, rfl, _, rfl, iteSE ?_⟩
      refine ⟨_, rfl, r, [(2 * (ts.length : Int) + 1, x)], rfl, .inl ⟨x, _, .inl ⟨t, ts, h1, h2, rfl⟩, rfl⟩, fun p1 ws H1 s1 g1 m1 => ?_⟩
      refine ⟨_, rfl, r, _, _, _, rfl, rfl, SqT.of (s1 _ _ h1), rfl, t, ts, 1, rfl, h2.mono s1.tups, fun p2 us H2 s2 g2 m2 => ?_⟩
      have e1 : ws.length = 1 := Paired.length m1
      have e2 : us.length = (namesOf 1 ts).length := Paired.length m2
      have := namesOf_length ts 1
      have := h2.hi
      have hw : ws ≠ [] := by rintro rfl; simp at e1
      refine ⟨p1, p2, _, _, rfl, rfl, SqT.of (s2 _ _ g1), SqT.of g2, (by exact Nat.le_of_lt (small1000 (by omega))), (fun z => absurd z hw), fun _ z => ?_, fun _ _ p3 hp3 => ?_⟩
      · subst z
        have e : namesOf 1 ts = [] := List.length_eq_zero_iff.mp (by simpa using e2.symm)
        exact q p1 ws H2 (s1.trans s2) (s2 _ _ g1) (by rw [e]; exact m1.mono s2.tups)
      · refine q p3 _ _ ((s1.trans s2).new hp3) upd_same ?_
        have m1' : Names (upd H2 p3 (.tup (ws ++ us))) ws [(2 * (ts.length : Int) + 1, x)] := (m1.mono s2.tups).mono (Tups.new hp3)
        have m2' : Names (upd H2 p3 (.tup (ws ++ us))) us (namesOf 1 ts) := m2.mono (Tups.new hp3)
        exact names_append m1' m2'
    · refine ⟨_, rfl, r, _, _, _, rfl, rfl, SqT.of h1, rfl, ?_⟩
      refine ⟨_, rfl, rfl, _, rfl, iteSN (by decide +kernel) ?_⟩
      refine ⟨_, rfl, rfl, _, rfl, iteSN (by decide +kernel) ?_⟩
      refine ⟨_, rfl, rfl, _, rfl, iteSN (by decide +kernel) ?_⟩
      refine ⟨_, rfl, rfl, _, rfl, iteSE ?_⟩
      exact ⟨_, rfl, r, [(3, x)], rfl, .inl ⟨x, 3, .inr ⟨part, h1, rfl⟩, rfl⟩, q⟩
    · refine ⟨_, rfl, r, _, _, _, rfl, rfl, SqT.of h1, rfl, ?_⟩
      refine ⟨_, rfl, rfl, _, rfl, iteSN (by decide +kernel) ?_⟩
      refine ⟨_, rfl, rfl, _, rfl, iteSN (by decide +kernel) ?_⟩
      refine ⟨_, rfl, rfl, _, rfl, iteSN (by decide +kernel) ?_⟩
      refine ⟨_, rfl, rfl, _, rfl, iteSE ?_⟩
      exact ⟨_, rfl, r, [], rfl, .inr ⟨_, _, h1, rfl⟩, q⟩
    · refine ⟨_, rfl, r, _, _, _, rfl, rfl, SqT.of h1, atI_nat (j := 0) rfl, ?_⟩
      refine ⟨_, rfl, rfl, _, rfl, iteSN n1 ?_⟩
      refine ⟨_, rfl, rfl, _, rfl, iteSN n2 ?_⟩
      refine ⟨_, rfl, rfl, _, rfl, iteSN n3 ?_⟩
      refine ⟨_, rfl, rfl, _, rfl, iteSN n4 ?_⟩
      exact ⟨(by show 0 ≤ sizeLine; decide), fun p hp => q p _ _ ((Same.refl H).new hp) upd_same .nil⟩
theorem ntH {σ : L2.St} {H : Hp} {A B : Hp → Prop} (h : A H) : tNoTest σ H fun b H5 => if b = true then A H5 else B H5 := by
  show if true = true then A H else B H
  rw [if_pos rfl]
  exact h
theorem iteNX {c A B : Prop} [Decidable c] (hc : ¬ c) (h : A) : if (!decide c) = true then A else B := by
  rw [if_pos (by simp [hc])]
  exact h
noncomputable def spEmpty (CP : Addr) : Sp := fun vs H Q _ => ∃ (w : Addr) (p : Str) (N : Nt), vs = [.ref w, .str p] ∧ WalkAt CP H w N ∧ ∀ (t : Addr) (H' : Hp), Same H H' → H' t = some (.tup []) → Q (.ref t) H'
theorem ok_loads_of (T : Tc K mg CP CG) : MCl P w K mg base 1 CP "loads_of" ["self", "part"] (spEmpty CP) := by
  refine MCl.of T.m_loads_of sc_Walk_loads_of (fun vs H Q E h => ?_) (fun _ _ _ _ _ _ us hl => len2 us hl (fun _ _ => rfl)) (fun fa cdv A outer s H vs Q E hr h => ?_)
  · obtain ⟨w, p, N, rfl, _⟩ := h
    rfl
  · obtain ⟨w, p, N, rfl, hw, q⟩ := h
    refine ⟨_, (pss_one (ps_ret (pe_tup pa_nil))), ?_⟩
    exact ⟨(by show 0 ≤ sizeLine; decide), fun t gt => q t _ ((Same.refl H).new gt) upd_same⟩
theorem ok_ahead_of (T : Tc K mg CP CG) : MCl P w K mg base 1 CP "ahead_of" ["self", "root"] (spEmpty CP) := by
  refine MCl.of T.m_ahead_of sc_Walk_ahead_of (fun vs H Q E h => ?_) (fun _ _ _ _ _ _ us hl => len2 us hl (fun _ _ => rfl)) (fun fa cdv A outer s H vs Q E hr h => ?_)
  · obtain ⟨w, p, N, rfl, _⟩ := h
    rfl
  · obtain ⟨w, p, N, rfl, hw, q⟩ := h
    refine ⟨_, (pss_one (ps_ret (pe_tup pa_nil))), ?_⟩
    exact ⟨(by show 0 ≤ sizeLine; decide), fun t gt => q t _ ((Same.refl H).new gt) upd_same⟩
noncomputable def spKey (CP : Addr) : Sp := fun vs H Q _ => ∃ (w : Addr) (p x : Str) (N : Nt) (k : Str × Nat), vs = [.ref w, .str p, .str x] ∧ WalkAt CP H w N ∧ N.km (p, x) = some k ∧ ∀ (t : Addr) (H' : Hp), Same H H' → H' t = some (.tup ((kN k).map kV)) → Q (.ref t) H'
theorem ok_key_of (T : Tc K mg CP CG) : MCl P w K mg base 1 CP "key_of" ["self", "part", "name"] (spKey CP) := by
  refine MCl.of T.m_key_of sc_PartsWalk_key_of (fun vs H Q E h => ?_) (fun _ _ _ _ _ _ us hl => len3 us hl (fun _ _ _ => rfl)) (fun fa cdv A outer s H vs Q E hr h => ?_)
  · obtain ⟨w, p, x, N, k, rfl, _⟩ := h
    rfl
  · obtain ⟨w, p, x, N, k, rfl, hw, hk, q⟩ := h
    have hu := hu_of hr
    obtain ⟨dx, rd, md, kvr, kvm, h1, h2, h3, h4, h5⟩ := hw.ex
    obtain ⟨t, e1, e2⟩ := h5 p x k hk
    refine ⟨_, (pss_one (ps_ret (pe_dget hu (pe_fld (pv 0) rfl) (pe_tup (pa_cons (pv 1) (pa_cons (pv 2) pa_nil))) (fun _ _ => rfl)))), ?_⟩
    refine ⟨_, rfl, w, CP, dx, _, _, rfl, h1, T.c_PartsWalk, T.nP_makers, lw_makers, _, rfl, _, rfl, (by show 2 ≤ sizeLine; decide), fun c gc => ?_⟩
    have s1 : Same H (upd H c (.tup ((kS (p, x)).map kV))) := (Same.refl H).new gc
    refine ⟨md, .ref t, rfl, ?_, ?_⟩
    · have hg := DGet.t (k := kS (p, x)) (s1 _ _ h3) (upd_same (H := H) (a := c) (o := .tup ((kS (p, x)).map kV)))
      rw [e1] at hg
      exact hg
    · exact q t _ s1 (s1 _ _ e2)
noncomputable def PlRow (H : Hp) (v : V) (x : Wx) : Prop := ∃ t r, v = .ref t ∧ H t = some (.tup [.str x.1, .int (x.2.1 : Int), .ref r]) ∧ RowAt H r x.2.2
theorem PlRow.mono {H H' : Hp} (s : Tups H H') {v : V} {x : Wx} (h : PlRow H v x) : PlRow H' v x := by
  obtain ⟨t, r, e, h1, h2⟩ := h
  exact ⟨t, r, e, s _ _ h1, h2.mono s⟩
theorem idx_len (p : Str) (rs : List Rw) : (idxRows p rs).length = rs.length := by unfold idxRows; rw [List.length_mapIdx]
theorem idx_at {p : Str} {rs : List Rw} {i : Nat} {rw : Rw} (h : rs[i]? = some rw) : (idxRows p rs)[i]? = some (p, i, rw) := by
  unfold idxRows
  rw [List.getElem?_mapIdx, h]
  rfl
noncomputable def spRowsOf (CP : Addr) : Sp := fun vs H Q _ => ∃ (w : Addr) (p : Str) (rs : List Rw) (N : Nt), vs = [.ref w, .str p] ∧ WalkAt CP H w N ∧ (p, rs) ∈ N.ps ∧ rs.length ≤ 900 ∧ ∀ (t : Addr) (vs : List V) (H' : Hp), Same H H' → H' t = some (.tup vs) → Paired (PlRow H') vs (idxRows p rs) → Q (.ref t) H'
theorem ok_rows_of (T : Tc K mg CP CG) : MCl P w K mg base 1 CP "rows_of" ["self", "part"] (spRowsOf CP) := by
  refine MCl.of T.m_rows_of sc_PartsWalk_rows_of (fun vs H Q E h => ?_) (fun _ _ _ _ _ _ us hl => len2 us hl (fun _ _ => rfl)) (fun fa cdv A outer s H vs Q E hr h => ?_)
  · obtain ⟨w, p, rs, N, rfl, _⟩ := h
    rfl
  · obtain ⟨w, p, rs, N, rfl, hw, hm, hl9, q⟩ := h
    have hu := hu_of hr
    obtain ⟨dx, rd, md, kvr, kvm, h1, h2, h3, h4, h5⟩ := hw.ex
    obtain ⟨u, ws, e1, e2, e3⟩ := h4 p rs hm
    have hwl : ws.length = rs.length := Paired.length e3
    refine ⟨_, (pss_one (ps_ret (pe_callTy call_tuple_of (by rfl) T.n_tuple boot_tuple (pa_cons (pe_comp (M := ["number", "row", "part"]) (ρ := [none, none, some 1]) (defScope s_PartsWalk_rows_of) ["self", "part"] ⟨rfl, by decide +kernel, by decide +kernel, by decide +kernel, rfl, by decide +kernel, by decide +kernel⟩ (pi_enumT (by rfl) T.n_enumerate (pa_cons (pe_dget hu (pe_fld (pv 0) rfl) (pv 1) (fun _ _ => rfl)) pa_nil)) (fun _ _ _ _ _ _ => (pg_tupK (K := K) (n := 2) rfl rfl (pgs_cons (pg_name (i := 0) (show (["number", "row", "part"] : List Str).Nodup by decide +kernel) rfl (Or.inl rfl)) (pgs_cons (pg_name (i := 1) (show (["number", "row", "part"] : List Str).Nodup by decide +kernel) rfl (Or.inl rfl)) pgs_nil)))) (fun _ _ _ _ _ _ => pts_nil) (fun _ _ _ _ _ _ => (pe_tup (pa_cons (pv 2) (pa_cons (pv 0) (pa_cons (pv 1) pa_nil)))))) pa_nil)))), ?_⟩
    refine ⟨_, rfl, w, CP, dx, _, _, rfl, h1, T.c_PartsWalk, T.nP_rows, lw_rows, _, rfl, rd, .ref u, rfl, ?_, u, rfl, ⟨_, SqT.of e2⟩, fun D hD => ?_⟩
    · have hg := DGet.k (k := Sum.inr p) h2
      rw [e1] at hg
      exact hg
    refine comp_by ws.length (fun i σ H3 => ∃ (v0 v1 : Option V) (us : List V), σ = [v0, v1, some (.str p)] ∧ Same H H3 ∧ H3 D = some (.lst us) ∧ Paired (PlRow H3) us ((idxRows p rs).take i)) ⟨_, _, [], rfl, (Same.refl H).new hD, upd_same, by rw [List.take_zero]; exact .nil⟩ ?_ ?_
    · rintro i σ H3 hi ⟨v0, v1, us, rfl, s3, hD3, hus⟩
      refine ⟨⟨ws, ws[i], SqT.of (s3 _ _ e2), by simp⟩, ?_⟩
      rintro v H4 ⟨pe, y, hv, hpe, rfl, rfl⟩
      have hv' := hv _ (SqT.of (s3 _ _ e2))
      obtain ⟨rw, hrw, r, er, hra⟩ := Paired.get? e3 hv'
      subst er
      have s4 : Same H3 (upd H3 pe (.tup [.int i, .ref r])) := (Same.refl H3).new hpe
      have hpe4 : upd H3 pe (.tup [.int i, .ref r]) pe = some (.tup [.int i, .ref r]) := upd_same
      generalize upd H3 pe (.tup [.int i, .ref r]) = H4 at s4 hpe4 ⊢
      have hul : us.length ≤ i := by rw [Paired.length hus, List.length_take]; omega
      refine ⟨pe, _, rfl, SqT.of hpe4, rfl, _, _, rfl, _, _, rfl, rfl, ?_⟩
      refine ntH ?_
      refine ⟨_, rfl, _, rfl, _, rfl, (by show 3 ≤ sizeLine; decide), fun t gt => ?_⟩
      have s5 : Same H3 (upd H4 t (.tup [.str p, .int i, .ref r])) := s4.new gt
      have hD5 := s5 _ _ hD3
      have ht5 : upd H4 t (.tup [.str p, .int i, .ref r]) t = some (.tup [.str p, .int i, .ref r]) := upd_same
      generalize upd H4 t (.tup [.str p, .int i, .ref r]) = H5 at s5 hD5 ht5 ⊢
      refine ⟨us, hD5, small1000 (by omega), _, _, _, rfl, (s3.trans s5).put hD, upd_same, ?_⟩
      rw [take_succ_get (idx_at hrw)]
      have T6 : Tups H5 (upd H5 D (.lst (us ++ [.ref t]))) := Tups.lst hD5
      exact Paired.snoc (Paired.mapP hus fun _ _ z => (z.mono s5.tups).mono T6) ⟨t, r, rfl, T6 _ _ ht5, (hra.mono (s3.trans s5).tups).mono T6⟩
    · rintro σ H3 ⟨v0, v1, us, rfl, s3, hD3, hus⟩
      refine ⟨⟨ws, SqT.of (s3 _ _ e2), rfl⟩, ?_⟩
      refine ⟨D, _, rfl, .inl ⟨SqL.of hD3, fun t gt => ?_⟩⟩
      refine q t us _ (s3.new gt) upd_same ?_
      rw [List.take_of_length_le (by rw [idx_len]; omega)] at hus
      exact Paired.mapP hus fun _ _ z => z.mono (Tups.new gt)
theorem ok_load (T : Tc K mg CP CG) : MCl P w K mg base 1 CG "load" ["self", "packs"] (fun vs H Q _ => ∃ (g t : Addr), vs = [.ref g, .ref t] ∧ H t = some (.tup []) ∧ Q .non H) := by
  refine MCl.of T.m_load sc_Going_load (fun vs H Q E h => ?_) (fun _ _ _ _ _ _ us hl => len2 us hl (fun _ _ => rfl)) (fun fa cdv A outer s H vs Q E hr h => ?_)
  · obtain ⟨g, t, rfl, _⟩ := h
    rfl
  · obtain ⟨g, t, rfl, ht, q⟩ := h
    have hu := hu_of hr
    refine ⟨_, (pss_one (ps_for PassesOwn.never rfl (pi_tup (pv 1)) (pg_name (i := 2) sc_Going_load.nd rfl (Or.inl rfl))
        (pss_one (ps_if (pt_cmp (pc_dnotin hu (pv 2) (pe_fld (pv 0) rfl)))
          (pss_cons (ps_dput hu (pe_fld (pv 0) rfl) (pv 2) pe_bl rfl)
          (pss_one (ps_expr (pe_bm PySem.F.plainAttrs_list PySem.F.slot_list_append PySem.F.type_list_append mt_append (pe_fld (pv 0) rfl) (pa_cons (pe_tup (pa_cons pe_str (pa_cons (pv 2) pa_nil))) pa_nil))))) pss_nil)))), ?_⟩
    refine ⟨_, rfl, t, rfl, ⟨_, SqT.of ht⟩, for_tup (K := K) (a := t) (xs := []) (fun i σ H2 => H2 = H) rfl (fun i σ H2 _ e => by rw [e]; exact SqT.of ht) (fun i x σ H2 e _ => by simp at e) (fun σ H2 e => by rw [e]; exact q)⟩
noncomputable def KpG (g : Addr) (H H' : Hp) : Prop := ∀ a o, H a = some o → a ≠ g → H' a = some o
theorem KpG.refl (g : Addr) (H : Hp) : KpG g H H := fun _ _ e _ => e
theorem KpG.self {g : Addr} {H H' : Hp} {o : HO} (k : KpG g H H') : KpG g H (upd H' g o) := fun a u e h => by rw [upd_ne h]; exact k a u e h
theorem KpG.new {g : Addr} {H H' : Hp} {b : Addr} {o : HO} (k : KpG g H H') (hb : H' b = none) : KpG g H (upd H' b o) := fun a u e h => upd_keep (k a u e h) hb
theorem putF_le (f : Str) (v : V) : ∀ (fs : List (Str × V)) (n : Nat), fs.length ≤ n → (putF f v fs).length ≤ n + 1
  | [], n, h => by show 1 ≤ n + 1; omega
  | (g, x) :: r, n, h => by
    have h' : r.length + 1 ≤ n := h
    show (if g = f then (g, v) :: r else (g, x) :: putF f v r).length ≤ n + 1
    split
    · show r.length + 1 ≤ n + 1; omega
    · have := putF_le f v r (n - 1) (by omega)
      show (putF f v r).length + 1 ≤ n + 1
      omega
theorem lt1000 {m n : Nat} (h : m ≤ n) (hn : n < 1000) : m < 1000 := Nat.lt_of_le_of_lt h hn
theorem go_fs (A : GA) : putF "fault" .non (putF "trace" (.ref A.tr) (putF "waiting" (.ref A.wt) (putF "given" (.ref A.gv) (putF "loaded" (.ref A.l) (putF "begun" (.ref A.b) (putF "taken" (.int 0) (putF "numbers" (.ref A.n) (putF "walk" (.ref A.w) [])))))))) = gF A 0 .non := by kernel_rfl
noncomputable def s0 : GS := ⟨0, [], [], [], [], none⟩
noncomputable def spGoInit (CP CG : Addr) : Sp := fun vs H Q _ => ∃ (g w n dx : Addr) (N : Nt) (ns : List Int), vs = [.ref g, .ref w, .ref n] ∧ H g = some (.ins CG dx []) ∧ WalkAt CP H w N ∧ w ≠ g ∧ H n = some (.tup (ns.map V.int)) ∧ ∀ (A : GA) (H' : Hp), KpG g H H' → (H A.b = none ∧ H A.l = none ∧ H A.gv = none ∧ H A.wt = none ∧ H A.tr = none) → GoAt CP CG H' g A N ns s0 → Q .non H'
theorem ok_GoInit (T : Tc K mg CP CG) : ICl P w K mg base 1 "Going" CG ["self", "walk", "numbers"] (spGoInit CP CG) := by
  refine ICl.of T.i_Going T.g_Going sc_Going___init__ (fun vs H Q E h => ?_) (fun _ _ _ _ _ _ us hl => len3 us hl (fun _ _ _ => rfl)) (fun fa cdv A outer s H vs Q E hr h => ?_)
  · obtain ⟨g, w, n, dx, N, ns, rfl, _⟩ := h
    rfl
  · obtain ⟨g, w, n, dx, N, ns, rfl, hg, hw, hwg, hn, q⟩ := h
    refine ⟨_, (pss_cons (ps_fld (pv 0) (pv 1) rfl)
      (pss_cons (ps_fld (pv 0) (pv 2) rfl)
      (pss_cons (ps_fld (pv 0) pe_int rfl)
      (pss_cons (ps_fld (pv 0) pe_dnewK rfl)
      (pss_cons (ps_fld (pv 0) pe_dnewK rfl)
      (pss_cons (ps_fld (pv 0) pe_dnewT rfl)
      (pss_cons (ps_fld (pv 0) (pe_lst pa_nil) rfl)
      (pss_cons (ps_fld (pv 0) (pe_lst pa_nil) rfl)
      (pss_one (ps_fld (pv 0) pe_non rfl)))))))))), ?_⟩
    refine ⟨_, rfl, _, rfl, g, CG, dx, _, rfl, hg, T.c_Going, T.nG_walk, (by show 0 < 1000; decide), ?_⟩
    refine ⟨_, rfl, _, rfl, g, CG, dx, _, rfl, upd_same, T.c_Going, T.nG_numbers, lt1000 (putF_le _ _ _ 0 (Nat.le_refl _)) (by decide), ?_⟩
    refine ⟨_, rfl, g, CG, dx, _, rfl, upd_same, T.c_Going, T.nG_taken, lt1000 (putF_le _ _ _ 1 (putF_le _ _ _ 0 (Nat.le_refl _))) (by decide), ?_⟩
    have k3 : KpG g H (upd (upd (upd H g (.ins CG dx (putF "walk" (.ref w) []))) g (.ins CG dx (putF "numbers" (.ref n) (putF "walk" (.ref w) [])))) g (.ins CG dx (putF "taken" (.int 0) (putF "numbers" (.ref n) (putF "walk" (.ref w) []))))) := ((KpG.refl g H).self.self).self
    have g3 : upd (upd (upd H g (.ins CG dx (putF "walk" (.ref w) []))) g (.ins CG dx (putF "numbers" (.ref n) (putF "walk" (.ref w) [])))) g (.ins CG dx (putF "taken" (.int 0) (putF "numbers" (.ref n) (putF "walk" (.ref w) [])))) g = some (.ins CG dx (putF "taken" (.int 0) (putF "numbers" (.ref n) (putF "walk" (.ref w) [])))) := upd_same
    generalize upd (upd (upd H g (.ins CG dx (putF "walk" (.ref w) []))) g (.ins CG dx (putF "numbers" (.ref n) (putF "walk" (.ref w) [])))) g (.ins CG dx (putF "taken" (.int 0) (putF "numbers" (.ref n) (putF "walk" (.ref w) [])))) = H3 at k3 g3 ⊢
    have l3 : (putF "taken" (.int 0) (putF "numbers" (.ref n) (putF "walk" (.ref w) []))).length ≤ 3 := putF_le _ _ _ 2 (putF_le _ _ _ 1 (putF_le _ _ _ 0 (Nat.le_refl _)))
    have fr : ∀ {H' : Hp} {b : Addr}, KpG g H H' → H' g ≠ none → H' b = none → H b = none := fun {H' b} k hg' hb => by
      cases e : H b with
      | none => rfl
      | some o =>
        by_cases z : b = g
        · subst z; exact absurd hb hg'
        · rw [k b o e z] at hb; cases hb
    intro b gb
    have nb : g ≠ b := ne_of_none g3 gb
    have fb := fr k3 (by rw [g3]; intro z; cases z) gb
    refine ⟨_, rfl, g, CG, dx, _, rfl, by rw [upd_ne nb]; exact g3, T.c_Going, T.nG_begun, lt1000 l3 (by decide), ?_⟩
    generalize hf3 : putF "taken" (.int 0) (putF "numbers" (.ref n) (putF "walk" (.ref w) [])) = f3 at l3 g3 ⊢
    have l4 := putF_le "begun" (.ref b) _ 3 l3
    have k4 := ((k3.new (o := .dK []) gb).self (o := .ins CG dx (putF "begun" (.ref b) f3)))
    have g4 := upd_same (H := upd H3 b (.dK [])) (a := g) (o := .ins CG dx (putF "begun" (.ref b) f3))
    have b4 : upd (upd H3 b (.dK [])) g (.ins CG dx (putF "begun" (.ref b) f3)) b = some (.dK []) := by rw [upd_ne nb.symm, upd_same]
    generalize upd (upd H3 b (.dK [])) g (.ins CG dx (putF "begun" (.ref b) f3)) = H4 at k4 g4 b4 ⊢
    generalize hf4 : putF "begun" (.ref b) f3 = f4 at l4 g4 ⊢
    intro l gl
    have nl : g ≠ l := ne_of_none g4 gl
    have fl := fr k4 (by rw [g4]; intro z; cases z) gl
    refine ⟨_, rfl, g, CG, dx, _, rfl, by rw [upd_ne nl]; exact g4, T.c_Going, T.nG_loaded, lt1000 l4 (by decide), ?_⟩
    have l5 := putF_le "loaded" (.ref l) _ 4 l4
    have nbl : b ≠ l := ne_of_none b4 gl
    have k5 := ((k4.new (o := .dK []) gl).self (o := .ins CG dx (putF "loaded" (.ref l) f4)))
    have g5 := upd_same (H := upd H4 l (.dK [])) (a := g) (o := .ins CG dx (putF "loaded" (.ref l) f4))
    have b5 : upd (upd H4 l (.dK [])) g (.ins CG dx (putF "loaded" (.ref l) f4)) b = some (.dK []) := by rw [upd_ne nb.symm, upd_ne nbl]; exact b4
    have c5 : upd (upd H4 l (.dK [])) g (.ins CG dx (putF "loaded" (.ref l) f4)) l = some (.dK []) := by rw [upd_ne nl.symm, upd_same]
    generalize upd (upd H4 l (.dK [])) g (.ins CG dx (putF "loaded" (.ref l) f4)) = H5 at k5 g5 b5 c5 ⊢
    generalize hf5 : putF "loaded" (.ref l) f4 = f5 at l5 g5 ⊢
    intro v gv
    have nv : g ≠ v := ne_of_none g5 gv
    have fv := fr k5 (by rw [g5]; intro z; cases z) gv
    refine ⟨_, rfl, g, CG, dx, _, rfl, by rw [upd_ne nv]; exact g5, T.c_Going, T.nG_given, lt1000 l5 (by decide), ?_⟩
    have l6 := putF_le "given" (.ref v) _ 5 l5
    have nbv : b ≠ v := ne_of_none b5 gv
    have nlv : l ≠ v := ne_of_none c5 gv
    have k6 := ((k5.new (o := .dT []) gv).self (o := .ins CG dx (putF "given" (.ref v) f5)))
    have g6 := upd_same (H := upd H5 v (.dT [])) (a := g) (o := .ins CG dx (putF "given" (.ref v) f5))
    have b6 : upd (upd H5 v (.dT [])) g (.ins CG dx (putF "given" (.ref v) f5)) b = some (.dK []) := by rw [upd_ne nb.symm, upd_ne nbv]; exact b5
    have c6 : upd (upd H5 v (.dT [])) g (.ins CG dx (putF "given" (.ref v) f5)) l = some (.dK []) := by rw [upd_ne nl.symm, upd_ne nlv]; exact c5
    have v6 : upd (upd H5 v (.dT [])) g (.ins CG dx (putF "given" (.ref v) f5)) v = some (.dT []) := by rw [upd_ne nv.symm, upd_same]
    generalize upd (upd H5 v (.dT [])) g (.ins CG dx (putF "given" (.ref v) f5)) = H6 at k6 g6 b6 c6 v6 ⊢
    generalize hf6 : putF "given" (.ref v) f5 = f6 at l6 g6 ⊢
    refine ⟨(by show 0 ≤ sizeLine; decide), fun wt gw => ?_⟩
    have nw : g ≠ wt := ne_of_none g6 gw
    have fw := fr k6 (by rw [g6]; intro z; cases z) gw
    refine ⟨_, rfl, g, CG, dx, _, rfl, by rw [upd_ne nw]; exact g6, T.c_Going, T.nG_waiting, lt1000 l6 (by decide), ?_⟩
    have l7 := putF_le "waiting" (.ref wt) _ 6 l6
    have nbw : b ≠ wt := ne_of_none b6 gw
    have nlw : l ≠ wt := ne_of_none c6 gw
    have nvw : v ≠ wt := ne_of_none v6 gw
    have k7 := ((k6.new (o := .lst []) gw).self (o := .ins CG dx (putF "waiting" (.ref wt) f6)))
    have g7 := upd_same (H := upd H6 wt (.lst [])) (a := g) (o := .ins CG dx (putF "waiting" (.ref wt) f6))
    have b7 : upd (upd H6 wt (.lst [])) g (.ins CG dx (putF "waiting" (.ref wt) f6)) b = some (.dK []) := by rw [upd_ne nb.symm, upd_ne nbw]; exact b6
    have c7 : upd (upd H6 wt (.lst [])) g (.ins CG dx (putF "waiting" (.ref wt) f6)) l = some (.dK []) := by rw [upd_ne nl.symm, upd_ne nlw]; exact c6
    have v7 : upd (upd H6 wt (.lst [])) g (.ins CG dx (putF "waiting" (.ref wt) f6)) v = some (.dT []) := by rw [upd_ne nv.symm, upd_ne nvw]; exact v6
    have w7 : upd (upd H6 wt (.lst [])) g (.ins CG dx (putF "waiting" (.ref wt) f6)) wt = some (.lst []) := by rw [upd_ne nw.symm, upd_same]
    generalize upd (upd H6 wt (.lst [])) g (.ins CG dx (putF "waiting" (.ref wt) f6)) = H7 at k7 g7 b7 c7 v7 w7 ⊢
    generalize hf7 : putF "waiting" (.ref wt) f6 = f7 at l7 g7 ⊢
    refine ⟨(by show 0 ≤ sizeLine; decide), fun tr gt => ?_⟩
    have nt' : g ≠ tr := ne_of_none g7 gt
    have ft := fr k7 (by rw [g7]; intro z; cases z) gt
    refine ⟨_, rfl, g, CG, dx, _, rfl, by rw [upd_ne nt']; exact g7, T.c_Going, T.nG_trace, lt1000 l7 (by decide), ?_⟩
    have l8 := putF_le "trace" (.ref tr) _ 7 l7
    refine ⟨_, rfl, g, CG, dx, _, rfl, upd_same, T.c_Going, T.nG_fault, lt1000 l8 (by decide), ?_⟩
    have nbt : b ≠ tr := ne_of_none b7 gt
    have nlt : l ≠ tr := ne_of_none c7 gt
    have nvt : v ≠ tr := ne_of_none v7 gt
    have nwt : wt ≠ tr := ne_of_none w7 gt
    have hfin : putF "fault" .non (putF "trace" (.ref tr) f7) = gF ⟨w, n, b, l, v, wt, tr⟩ 0 .non := by
      rw [← hf7, ← hf6, ← hf5, ← hf4, ← hf3]
      exact go_fs ⟨w, n, b, l, v, wt, tr⟩
    have k9 := ((k7.new (o := .lst []) gt).self (o := .ins CG dx (putF "trace" (.ref tr) f7))).self (o := .ins CG dx (putF "fault" .non (putF "trace" (.ref tr) f7)))
    have g9 := upd_same (H := upd (upd H7 tr (.lst [])) g (.ins CG dx (putF "trace" (.ref tr) f7))) (a := g) (o := .ins CG dx (putF "fault" .non (putF "trace" (.ref tr) f7)))
    have at9 : ∀ {a : Addr} {o : HO}, a ≠ g → a ≠ tr → H7 a = some o → upd (upd (upd H7 tr (.lst [])) g (.ins CG dx (putF "trace" (.ref tr) f7))) g (.ins CG dx (putF "fault" .non (putF "trace" (.ref tr) f7))) a = some o := fun {a o} h1 h2 e => by rw [upd_ne h1, upd_ne h1, upd_ne h2]; exact e
    have b9 := at9 nb.symm nbt b7
    have c9 := at9 nl.symm nlt c7
    have v9 := at9 nv.symm nvt v7
    have w9 := at9 nw.symm nwt w7
    have t9 : upd (upd (upd H7 tr (.lst [])) g (.ins CG dx (putF "trace" (.ref tr) f7))) g (.ins CG dx (putF "fault" .non (putF "trace" (.ref tr) f7))) tr = some (.lst []) := by rw [upd_ne nt'.symm, upd_ne nt'.symm, upd_same]
    generalize upd (upd (upd H7 tr (.lst [])) g (.ins CG dx (putF "trace" (.ref tr) f7))) g (.ins CG dx (putF "fault" .non (putF "trace" (.ref tr) f7))) = H9 at k9 g9 b9 c9 v9 w9 t9 ⊢
    rw [hfin] at g9
    have T9 : Tups H H9 := fun a xs e => k9 a _ e (ne_of e hg (by intro z; cases z))
    obtain ⟨dy, rd, md, kvr, kvm, h1, h2, h3, h4, h5⟩ := hw.ex
    refine q ⟨w, n, b, l, v, wt, tr⟩ H9 k9 ⟨fb, fl, fv, fw, ft⟩ ⟨⟨dx, .non, g9, rfl⟩, T9 _ _ hn, b9, c9, v9, ⟨[], w9, .nil⟩, ⟨[], t9, .nil⟩, ?_, nwt, nbl, fun dx' rd' md' e => ?_, fun k x e => ?_, Nat.zero_le _⟩
    · refine ⟨dy, rd, md, kvr, kvm, k9 _ _ h1 hwg, k9 _ _ h2 (ne_of h2 hg (by intro z; cases z)), k9 _ _ h3 (ne_of h3 hg (by intro z; cases z)), fun n' rs hm => ?_, fun p x k hk => ?_⟩
      · obtain ⟨u, ws, e1, e2, e3⟩ := h4 n' rs hm
        exact ⟨u, ws, e1, T9 _ _ e2, e3.mono T9⟩
      · obtain ⟨t, e1, e2⟩ := h5 p x k hk
        exact ⟨t, e1, T9 _ _ e2⟩
    · have e' : H9 w = some (.ins CP dx' (wF rd' md')) := e
      rw [k9 _ _ h1 hwg] at e'
      have e3 := Option.some.inj e'
      injection e3 with _ _ e4
      have e5 : rd = rd' := by injection e4 with e6 _; injection e6 with _ e7; exact V.ref.inj e7
      have e6 : md = md' := by injection e4 with _ e7; injection e7 with e8 _; injection e8 with _ e9; exact V.ref.inj e9
      subst e5
      subst e6
      refine ⟨fun z => ?_, fun z => ?_, fun z => ?_⟩
      · have z' : rd = b := z
        rw [z', fb] at h2; cases h2
      · have z' : rd = l := z
        rw [z', fl] at h2; cases h2
      · have z' : md = v := z
        rw [z', fv] at h3; cases h3
    · simp [valV, s0] at e
noncomputable def spThing (CP CG : Addr) : Sp := fun vs H Q _ => ∃ (g : Addr) (A : GA) (N : Nt) (ns : List Int) (S : GS) (p : Str) (th : Th), vs = [.ref g, .str p, thV th] ∧ GoAt CP CG H g A N ns S ∧ (∀ x, th = .nam x → (lk N S.gv p x).isSome = true) ∧ ∀ H', Same H H' → Q (.int (tv N S.gv p th)) H'
theorem lk_some {N : Nt} {S : GS} {p x : Str} (h : (lk N S.gv p x).isSome = true) (gi : ∀ k v, valV S.gv k = some v → ∃ i : Int, v = .int i) : ∃ k i, N.km (p, x) = some k ∧ valV S.gv (kN k) = some (.int i) ∧ lk N S.gv p x = some (.int i) := by
  unfold lk at h ⊢
  cases e : N.km (p, x) with
  | none => rw [e] at h; cases h
  | some k =>
    rw [e] at h
    have h' : (valV S.gv (kN k)).isSome = true := h
    cases e2 : valV S.gv (kN k) with
    | none => rw [e2] at h'; cases h'
    | some v =>
      obtain ⟨i, rfl⟩ := gi _ _ e2
      exact ⟨k, i, rfl, e2, by show valV S.gv (kN k) = _; exact e2⟩
theorem ok_thing_value (T : Tc K mg CP CG) : MCl P w K mg base 2 CG "thing_value" ["self", "part", "thing"] (spThing CP CG) := by
  have C_key_of := ok_key_of (P := P) (w := w) (base := base) T
  refine MCl.of T.m_thing_value sc_Going_thing_value (fun vs H Q E h => ?_) (fun _ _ _ _ _ _ us hl => len3 us hl (fun _ _ _ => rfl)) (fun fa cdv A outer s H vs Q E hr h => ?_)
  · obtain ⟨g, A, N, ns, S, p, th, rfl, _⟩ := h
    rfl
  · obtain ⟨g, A, N, ns, S, p, th, rfl, hG, hk, q⟩ := h
    have hu := hu_of hr
    obtain ⟨dx, v, hg, _⟩ := hG.ob
    obtain ⟨dw, rd, md, kvr, kvm, hw, _⟩ := hG.wk.ex
    refine ⟨_, (pss_cons (ps_if (pt_val (pe_callB call_isinst (by rfl) T.n_isinstance PyProof.Rows.boot_isinstance (pa_cons (pv 2) (pa_cons (pe_bltn (v := .ty "str") (by rfl) T.n_str boot_str rfl) pa_nil))))
        (pss_one (ps_ret (pe_dget hu (pe_fld (pv 0) rfl) (pe_m C_key_of T.c_PartsWalk hr (pe_fld (pv 0) rfl) (pa_cons (pv 1) (pa_cons (pv 2) pa_nil))) (fun _ _ => rfl)))) pss_nil)
      (pss_one (ps_ret (pv 2)))), ?_⟩
    cases th with
    | num n =>
      refine ⟨_, rfl, _, _, _, _, rfl, .int n, kit_int_str _, _, rfl, iteF ?_⟩
      exact ⟨_, rfl, q H (Same.refl H)⟩
    | nam x =>
      obtain ⟨k, i, e1, e2, e3⟩ := lk_some (hk x rfl) hG.gi
      refine ⟨_, rfl, _, _, _, _, rfl, .str x, kit_same _ _, _, rfl, iteT ?_⟩
      refine ⟨_, rfl, g, CG, dx, _, _, rfl, hg, T.c_Going, T.nG_given, lg_given, ?_⟩
      refine ⟨_, rfl, g, CG, dx, _, _, rfl, hg, T.c_Going, T.nG_walk, lg_walk, A.w, dw, _, rfl, hw, lw_key_of, _, rfl, _, rfl, A.w, p, x, N, k, rfl, hG.wk, e1, fun t H1 s1 ht => ?_⟩
      refine ⟨A.gv, .int i, rfl, ?_, ?_⟩
      · have hgt := DGet.t (k := kN k) (s1 _ _ hG.gv) ht
        rw [e2] at hgt
        exact hgt
      · have := q H1 s1
        have e4 : tv N S.gv p (.nam x) = i := by show ivl (lk N S.gv p x) = i; rw [e3]; rfl
        rw [e4] at this
        exact this
noncomputable def spValue (CP CG : Addr) : Sp := fun vs H Q _ => ∃ (g t : Addr) (A : GA) (N : Nt) (ns : List Int) (S : GS) (p : Str) (ts : List (Int × Th)), vs = [.ref g, .str p, .ref t] ∧ GoAt CP CG H g A N ns S ∧ TermsAt H t ts ∧ (∀ d ∈ ts, d.1 = 1 ∨ d.1 = -1) ∧ (∀ d ∈ ts, ∀ x, d.2 = .nam x → (lk N S.gv p x).isSome = true) ∧ ∀ H', Same H H' → Q (.int (sumV N S.gv p ts)) H'
theorem ok_value_of (T : Tc K mg CP CG) : MCl P w K mg base 3 CG "value_of" ["self", "part", "terms"] (spValue CP CG) := by
  have C_thing_value := ok_thing_value (P := P) (w := w) (base := base) T
  refine MCl.of T.m_value_of sc_Going_value_of (fun vs H Q E h => ?_) (fun _ _ _ _ _ _ us hl => len3 us hl (fun _ _ _ => rfl)) (fun fa cdv A outer s H vs Q E hr h => ?_)
  · obtain ⟨g, t, A, N, ns, S, p, ts, rfl, _⟩ := h
    rfl
  · obtain ⟨g, t, A, N, ns, S, p, ts, rfl, hG, ⟨⟨vs, ht, hts⟩, lo, hi⟩, hsg, hk, q⟩ := h
    have hvl : vs.length = ts.length := Paired.length hts
    refine ⟨_, (pss_cons (ps_set (i := 3) sc_Going_value_of.nd rfl (Or.inl rfl) pe_int)
      (pss_cons (ps_for PassesOwn.never rfl (pi_tup (pv 2)) (pg_tup rfl (pgs_cons (pg_name (i := 4) sc_Going_value_of.nd rfl (Or.inl rfl)) (pgs_cons (pg_name (i := 5) sc_Going_value_of.nd rfl (Or.inl rfl)) pgs_nil)))
        (pss_one (ps_aug (i := 3) sc_Going_value_of.nd rfl (Or.inl rfl) (pe_op op_mul (pv 4) (pe_m C_thing_value T.c_Going hr (pv 0) (pa_cons (pv 1) (pa_cons (pv 5) pa_nil)))) ip_add)))
      (pss_one (ps_ret (pv 3))))), ?_⟩
    refine ⟨_, rfl, t, rfl, ⟨_, SqT.of ht⟩, for_tup (K := K) (a := t) (xs := vs) (fun i σ H2 => ∃ v4 v5 : Option V, σ = [some (.ref g), some (.str p), some (.ref t), some (.int (sumV N S.gv p (ts.take i))), v4, v5] ∧ Same H H2)
      ⟨none, none, rfl, Same.refl H⟩ (fun i σ H2 _ ⟨_, _, _, s2⟩ => SqT.of (s2 _ _ ht)) ?_ ?_⟩
    · rintro i y σ H2 hy ⟨v4, v5, rfl, s2⟩
      obtain ⟨tm, htm, tp, ep, htp, hok⟩ := Paired.get? hts hy
      subst ep
      have hmem := List.mem_of_getElem? htm
      have h1 := hsg tm hmem
      refine ⟨tp, _, rfl, SqT.of (s2 _ _ htp), rfl, _, _, rfl, _, _, rfl, rfl, ?_⟩
      obtain ⟨dx, v, hg, _⟩ := (hG.same s2).ob
      refine ⟨_, rfl, _, rfl, _, rfl, g, dx, _, rfl, hg, lg_thing_value, _, rfl, _, rfl, g, A, N, ns, S, p, tm.2, rfl, hG.same s2, fun x e => hk tm hmem x e, fun H3 s3 => ?_⟩
      refine ⟨_, _, rfl, rfl, .inl ⟨by omega, by omega⟩, ?_⟩
      refine ⟨_, _, rfl, rfl, some (.int tm.1), some (thV tm.2), ?_, s2.trans s3⟩
      rw [take_succ_get htm, sumV_snoc]
      rfl
    · rintro σ H2 ⟨v4, v5, rfl, s2⟩
      rw [hvl, List.take_length]
      exact ⟨_, rfl, q H2 s2⟩
noncomputable def spGive (CP CG : Addr) : Sp := fun vs H Q _ => ∃ (g : Addr) (A : GA) (N : Nt) (ns : List Int) (S : GS) (p x : Str) (i : Int) (k : Str × Nat), vs = [.ref g, .str p, .str x, .int i] ∧ GoAt CP CG H g A N ns S ∧ N.km (p, x) = some k ∧ S.gv.length ≤ 1000 ∧ ∀ H', Fr g A H H' → GoAt CP CG H' g A N ns { S with gv := putK S.gv (kN k) (.int i) } → Q .non H'
theorem ok_give (T : Tc K mg CP CG) : MCl P w K mg base 2 CG "give" ["self", "part", "name", "value"] (spGive CP CG) := by
  have C_key_of := ok_key_of (P := P) (w := w) (base := base) T
  refine MCl.of T.m_give sc_Going_give (fun vs H Q E h => ?_) (fun _ _ _ _ _ _ us hl => len4 us hl (fun _ _ _ _ => rfl)) (fun fa cdv A outer s H vs Q E hr h => ?_)
  · obtain ⟨g, A, N, ns, S, p, x, i, k, rfl, _⟩ := h
    rfl
  · obtain ⟨g, A, N, ns, S, p, x, i, k, rfl, hG, e1, hl, q⟩ := h
    have hu := hu_of hr
    obtain ⟨dx, v, hg, _⟩ := hG.ob
    obtain ⟨dw, rd, md, kvr, kvm, hw, _⟩ := hG.wk.ex
    refine ⟨_, (pss_one (ps_dput hu (pe_fld (pv 0) rfl) (pe_m C_key_of T.c_PartsWalk hr (pe_fld (pv 0) rfl) (pa_cons (pv 1) (pa_cons (pv 2) pa_nil))) (pv 3) rfl)), ?_⟩
    refine ⟨_, rfl, _, rfl, g, CG, dx, _, _, rfl, hg, T.c_Going, T.nG_given, lg_given, ?_⟩
    refine ⟨_, rfl, g, CG, dx, _, _, rfl, hg, T.c_Going, T.nG_walk, lg_walk, A.w, dw, _, rfl, hw, lw_key_of, _, rfl, _, rfl, A.w, p, x, N, k, rfl, hG.wk, e1, fun t H1 s1 ht => ?_⟩
    have hG1 := hG.same s1
    refine ⟨A.gv, _, rfl, DPut.t (k := kN k) hG1.gv ht (small1000 hl), ?_⟩
    obtain ⟨f, hG2⟩ := hG1.putGiven k i
    exact q _ ((s1.fr g A).trans f) hG2
noncomputable def spTold (CP CG : Addr) : Sp := fun vs H Q _ => ∃ (g : Addr) (A : GA) (N : Nt) (ns : List Int) (S : GS), vs = [.ref g] ∧ GoAt CP CG H g A N ns S ∧ ∀ H', Fr g A H H' → GoAt CP CG H' g A N ns { S with tk := if S.tk = ns.length then S.tk else S.tk + 1 } → Q (.int (ns.getD S.tk 0)) H'
theorem ok_next_told (T : Tc K mg CP CG) : MCl P w K mg base 1 CG "next_told" ["self"] (spTold CP CG) := by
  refine MCl.of T.m_next_told sc_Going_next_told (fun vs H Q E h => ?_) (fun _ _ _ _ _ _ us hl => len1 us hl (fun _ => rfl)) (fun fa cdv A outer s H vs Q E hr h => ?_)
  · obtain ⟨g, A, N, ns, S, rfl, _⟩ := h
    rfl
  · obtain ⟨g, A, N, ns, S, rfl, hG, q⟩ := h
    obtain ⟨dx, v, hg, hft⟩ := hG.ob
    have hn := hG.nm
    have htk := hG.tkl
    refine ⟨_, (pss_cons (ps_if (pt_cmpR op_eq (pe_fld (pv 0) rfl) (pe_callB call_len_seq (by rfl) T.n_len PySem.boot_len (pa_cons (pe_fld (pv 0) rfl) pa_nil)) (nomark _))
        (pss_one (ps_ret pe_int)) pss_nil)
      (pss_cons (ps_fldaug (pv 0) pe_int in_add)
      (pss_one (ps_ret (pe_ix ix_tup (pe_fld (pv 0) rfl) (pe_op op_sub (pe_fld (pv 0) rfl) pe_int) (fun _ _ => rfl)))))), ?_⟩
    refine ⟨_, rfl, g, CG, dx, _, _, rfl, hg, T.c_Going, T.nG_taken, lg_taken, _, rfl, g, CG, dx, _, _, rfl, hg, T.c_Going, T.nG_numbers, lg_numbers, A.n, _, rfl, .inr (SqT.of hn), rfl, _, rfl, ite2I (fun c1 => ?_) (fun c1 => ?_)⟩
    · have e : S.tk = ns.length := by rw [List.length_map] at c1; omega
      have h0 : ns.getD S.tk 0 = 0 := by rw [e]; simp
      have := q H (Fr.refl g A H) (by rw [if_pos e]; exact hG)
      rw [h0] at this
      exact this
    · have e : ¬ S.tk = ns.length := by rw [List.length_map] at c1; omega
      have hlt : S.tk < ns.length := by omega
      refine ⟨_, rfl, g, CG, dx, _, _, rfl, hg, T.c_Going, T.nG_taken, lg_taken, _, _, rfl, rfl, dx, _, hg, gF_len, ?_⟩
      rw [put_taken]
      have ecast : (S.tk : Int) + 1 = ((S.tk + 1 : Nat) : Int) := by omega
      rw [ecast]
      obtain ⟨f, hG2⟩ := hG.setSelf (dx := dx) (tk := S.tk + 1) hft (by omega)
      obtain ⟨dx2, v2, hg2, _⟩ := hG2.ob
      have hg3 : upd H g (.ins CG dx (gF A ((S.tk + 1 : Nat) : Int) v)) g = some (.ins CG dx (gF A ((S.tk + 1 : Nat) : Int) v)) := upd_same
      refine ⟨_, rfl, g, CG, dx, _, _, rfl, hg3, T.c_Going, T.nG_numbers, lg_numbers, _, rfl, g, CG, dx, _, _, rfl, hg3, T.c_Going, T.nG_taken, lg_taken, _, _, rfl, rfl, A.n, _, _, _, rfl, rfl, SqT.of hG2.nm, atI_map V.int ns 0 (by omega) (by omega), ?_⟩
      have et : (((S.tk + 1 : Nat) : Int) - 1).toNat = S.tk := by omega
      rw [et]
      refine q _ f ?_
      rw [if_neg e]
      exact hG2
structure RowK (N : Nt) (p : Str) (rw : Rw) : Prop where
  rd : ∀ d ∈ rdR rw, (N.km (p, d.2)).isSome = true
  ow : ∀ o, ownR rw = some o → (N.km (p, o)).isSome = true
  sg : ∀ d ∈ sgR rw, d.1 = 1 ∨ d.1 = -1
  nm : ∀ d ∈ sgR rw, ∀ x, d.2 = .nam x → ∃ e ∈ rdR rw, e.2 = x
theorem mk_get {N : Nt} {p x : Str} (h : (N.km (p, x)).isSome = true) : ∃ k, N.km (p, x) = some k := by
  cases e : N.km (p, x) with
  | none => rw [e] at h; cases h
  | some k => exact ⟨k, rfl⟩
noncomputable def spOff (CP CG : Addr) : Sp := fun vs H Q _ => ∃ (g r : Addr) (A : GA) (N : Nt) (ns : List Int) (S : GS) (p : Str) (rw : Rw), vs = [.ref g, .str p, .ref r] ∧ GoAt CP CG H g A N ns S ∧ RowAt H r rw ∧ RowK N p rw ∧ ∀ H', Same H H' → Q (.bl (offR N S.gv p rw)) H'
theorem off_key {N : Nt} {gv : List (List Key × V)} {p x : Str} {k : Str × Nat} (e : N.km (p, x) = some k) : lk N gv p x = valV gv (kN k) := by unfold lk; rw [e]; rfl
theorem ok_is_off (T : Tc K mg CP CG) : MCl P w K mg base 2 CG "is_off" ["self", "part", "row"] (spOff CP CG) := by
  have C_key_of := ok_key_of (P := P) (w := w) (base := base) T
  refine MCl.of T.m_is_off sc_Going_is_off (fun vs H Q E h => ?_) (fun _ _ _ _ _ _ us hl => len3 us hl (fun _ _ _ => rfl)) (fun fa cdv A outer s H vs Q E hr h => ?_)
  · obtain ⟨g, r, A, N, ns, S, p, rw, rfl, _⟩ := h
    rfl
  · obtain ⟨g, r, A, N, ns, S, p, rw, rfl, hG, hra, hK, q⟩ := h
    have hu := hu_of hr
    obtain ⟨x1, rest, hrt⟩ := hra.kind
    have z0 : atI (V.str (kindS rw) :: x1 :: rest) 0 = some (.str (kindS rw)) := atI_nat (j := 0) rfl
    refine ⟨_, (pss_cons (ps_if (PW.pt (pw_or (pt_cmpR op_notIn_seq (pe_ix ix_tup (pv 2) pe_int (fun _ _ => rfl)) (pe_tup (pa_cons pe_str (pa_cons pe_str pa_nil))) (by with_unfolding_all rfl)) (pw_or1 (pt_cmp (pc_isN (pe_ix ix_tup (pv 2) pe_int (fun _ _ => rfl)))))))
        (pss_one (ps_ret pe_bl)) pss_nil)
      (pss_cons (ps_set (i := 3) sc_Going_is_off.nd rfl (Or.inl rfl) (pe_m C_key_of T.c_PartsWalk hr (pe_fld (pv 0) rfl) (pa_cons (pv 1) (pa_cons (pe_ix ix_tup (pv 2) pe_int (fun _ _ => rfl)) pa_nil))))
      (pss_one (ps_ret (pe_and (pe_cmp (pc_din hu (pv 3) (pe_fld (pv 0) rfl))) (pe_one (pe_cmpR op_le (pe_dget hu (pe_fld (pv 0) rfl) (pv 3) (fun _ _ => rfl)) pe_int (nomark _)))))))), ?_⟩
    refine ⟨_, rfl, r, _, _, _, rfl, rfl, SqT.of hrt, z0, (by show 2 ≤ sizeLine; decide), fun c gc => ?_⟩
    have s1 : Same H (upd H c (.tup [.str "say", .str "ask"])) := (Same.refl H).new gc
    have hc1 : upd H c (.tup [.str "say", .str "ask"]) c = some (.tup [.str "say", .str "ask"]) := upd_same
    generalize upd H c (.tup [.str "say", .str "ask"]) = H1 at s1 hc1 ⊢
    refine ⟨c, _, rfl, .inr (SqT.of hc1), rfl, rfl, _, rfl, ?_⟩
    rw [if_pos rfl, inV2]
    have hG1 := hG.same s1
    obtain ⟨dx, v, hg, _⟩ := hG1.ob
    obtain ⟨dw, rd, md, kvr, kvm, hw, _⟩ := hG1.wk.ex
    have on : ∀ (x : Str) (kd : Str) (y : V), H r = some (.tup [.str kd, y, .str x]) → (N.km (p, x)).isSome = true → offR N S.gv p rw = ((lk N S.gv p x).isSome && decide (ivl (lk N S.gv p x) ≤ 0)) → decide (kindS rw = "say" ∨ kindS rw = "ask") = true → True := fun _ _ _ _ _ _ _ => trivial
    cases rw with
    | say ts wh =>
      obtain ⟨t, hrt', hts⟩ := hra
      have ed : decide (kindS (Rw.say ts wh) = "say" ∨ kindS (Rw.say ts wh) = "ask") = true := decide_eq_true (.inl rfl)
      rw [ed]
      refine iteF ?_
      cases wh with
      | none =>
        refine ⟨_, rfl, r, _, _, _, rfl, rfl, SqT.of (s1 _ _ hrt'), rfl, _, rfl, ?_⟩
        exact iteDP rfl (q H1 s1)
      | some x =>
        obtain ⟨k, ek⟩ := mk_get (hK.rd _ (List.mem_cons_self (a := (2 * (ts.length : Int) + 1, x)) (l := namesOf 1 ts)))
        refine ⟨_, rfl, r, _, _, _, rfl, rfl, SqT.of (s1 _ _ hrt'), rfl, _, rfl, ?_⟩
        refine iteDN (by intro z; cases z) ?_
        refine ⟨_, rfl, g, CG, dx, _, _, rfl, hg, T.c_Going, T.nG_walk, lg_walk, A.w, dw, _, rfl, hw, lw_key_of, _, rfl, _, rfl, r, _, _, _, rfl, rfl, SqT.of (s1 _ _ hrt'), rfl, A.w, p, x, N, k, rfl, hG1.wk, ek, fun tk H2 s2 ht => ?_⟩
        have hG2 := hG1.same s2
        have hg2 := s2 _ _ hg
        have hgt := DGet.t (k := kN k) hG2.gv ht
        refine ⟨_, rfl, _, rfl, g, CG, dx, _, _, rfl, hg2, T.c_Going, T.nG_given, lg_given, A.gv, _, rfl, hgt, ?_⟩
        have hlk := off_key (gv := S.gv) ek
        have hoff : offR N S.gv p (.say ts (some x)) = ((lk N S.gv p x).isSome && decide (ivl (lk N S.gv p x) ≤ 0)) := rfl
        rw [hoff, hlk] at q
        cases e2 : valV S.gv (kN k) with
        | none =>
          rw [e2] at q hgt
          exact ⟨_, rfl, iteF (q H2 (s1.trans s2))⟩
        | some y =>
          obtain ⟨i, rfl⟩ := hG.gi _ _ e2
          rw [e2] at q hgt
          refine ⟨_, rfl, iteT ?_⟩
          exact ⟨_, rfl, g, CG, dx, _, _, rfl, hg2, T.c_Going, T.nG_given, lg_given, _, rfl, A.gv, _, rfl, hgt, _, _, rfl, rfl, q H2 (s1.trans s2)⟩
    | ask a wh =>
      have hrt' : H r = some (.tup [.str "ask", .str a, optV wh]) := hra
      have ed : decide (kindS (Rw.ask a wh) = "say" ∨ kindS (Rw.ask a wh) = "ask") = true := decide_eq_true (.inr rfl)
      rw [ed]
      refine iteF ?_
      cases wh with
      | none =>
        refine ⟨_, rfl, r, _, _, _, rfl, rfl, SqT.of (s1 _ _ hrt'), rfl, _, rfl, ?_⟩
        exact iteDP rfl (q H1 s1)
      | some x =>
        obtain ⟨k, ek⟩ := mk_get (hK.rd (3, x) (List.mem_cons_self (a := ((3 : Int), x)) (l := [])))
        refine ⟨_, rfl, r, _, _, _, rfl, rfl, SqT.of (s1 _ _ hrt'), rfl, _, rfl, ?_⟩
        refine iteDN (by intro z; cases z) ?_
        refine ⟨_, rfl, g, CG, dx, _, _, rfl, hg, T.c_Going, T.nG_walk, lg_walk, A.w, dw, _, rfl, hw, lw_key_of, _, rfl, _, rfl, r, _, _, _, rfl, rfl, SqT.of (s1 _ _ hrt'), rfl, A.w, p, x, N, k, rfl, hG1.wk, ek, fun tk H2 s2 ht => ?_⟩
        have hG2 := hG1.same s2
        have hg2 := s2 _ _ hg
        have hgt := DGet.t (k := kN k) hG2.gv ht
        refine ⟨_, rfl, _, rfl, g, CG, dx, _, _, rfl, hg2, T.c_Going, T.nG_given, lg_given, A.gv, _, rfl, hgt, ?_⟩
        have hlk := off_key (gv := S.gv) ek
        have hoff : offR N S.gv p (.ask a (some x)) = ((lk N S.gv p x).isSome && decide (ivl (lk N S.gv p x) ≤ 0)) := rfl
        rw [hoff, hlk] at q
        cases e2 : valV S.gv (kN k) with
        | none =>
          rw [e2] at q hgt
          exact ⟨_, rfl, iteF (q H2 (s1.trans s2))⟩
        | some y =>
          obtain ⟨i, rfl⟩ := hG.gi _ _ e2
          rw [e2] at q hgt
          refine ⟨_, rfl, iteT ?_⟩
          exact ⟨_, rfl, g, CG, dx, _, _, rfl, hg2, T.c_Going, T.nG_given, lg_given, _, rfl, A.gv, _, rfl, hgt, _, _, rfl, rfl, q H2 (s1.trans s2)⟩
    | _ =>
      rw [decide_eq_false (by simp only [kindS]; decide +kernel)]
      refine iteT ?_
      show if true = true then _ else _
      refine iteT ?_
      exact q H1 s1
theorem row_rd {H : Hp} {r : Addr} {rw : Rw} (h : RowAt H r rw) : RdAt H r (rdR rw) := by
  cases rw with
  | set o ts => obtain ⟨t, h1, h2⟩ := h; exact .inl ⟨o, t, ts, h1, h2, rfl⟩
  | need ts => obtain ⟨t, h1, h2⟩ := h; exact .inr (.inl ⟨t, ts, h1, h2, rfl⟩)
  | say ts w =>
    obtain ⟨t, h1, h2⟩ := h
    cases w with
    | none => exact .inr (.inr (.inl ⟨t, ts, h1, h2, rfl⟩))
    | some x => exact .inr (.inr (.inr (.inl ⟨t, ts, x, h1, h2, rfl⟩)))
  | ask p w =>
    cases w with
    | some x => exact .inr (.inr (.inr (.inr (.inl ⟨p, x, h, rfl⟩))))
    | none => exact .inr (.inr (.inr (.inr (.inr (.inl ⟨p, h, rfl⟩)))))
  | bring p ps => obtain ⟨t, h1, h2⟩ := h; exact .inr (.inr (.inr (.inr (.inr (.inr ⟨"bring", _, h1, by decide +kernel, rfl⟩)))))
  | give o g => exact .inr (.inr (.inr (.inr (.inr (.inr ⟨"give", _, h, by decide +kernel, rfl⟩)))))
  | take o => exact .inr (.inr (.inr (.inr (.inr (.inr ⟨"take", _, h, by decide +kernel, rfl⟩)))))
  | part p => exact .inr (.inr (.inr (.inr (.inr (.inr ⟨"part", _, h, by decide +kernel, rfl⟩)))))
  | doo p => exact .inr (.inr (.inr (.inr (.inr (.inr ⟨"do", _, h, by decide +kernel, rfl⟩)))))
theorem find_at {α : Type} {f : α → Bool} : ∀ {l : List α} {i : Nat} {x : α}, (∀ y ∈ l.take i, f y = false) → l[i]? = some x → f x = true → l.find? f = some x
  | [], _, _, _, h, _ => by simp at h
  | a :: l, 0, x, _, h, hx => by
    have e : a = x := by simpa using h
    subst e
    rw [List.find?_cons, hx]
  | a :: l, i + 1, x, h0, h, hx => by
    have ha : f a = false := h0 a (by rw [List.take_succ_cons]; exact List.mem_cons_self)
    rw [List.find?_cons, ha]
    exact find_at (i := i) (fun y hy => h0 y (by rw [List.take_succ_cons]; exact List.mem_cons_of_mem _ hy)) (by simpa using h) hx
noncomputable def optI : Option Int → V
  | some i => .int i
  | none => .non
noncomputable def spEarly (CP CG : Addr) : Sp := fun vs H Q _ => ∃ (g r : Addr) (A : GA) (N : Nt) (ns : List Int) (S : GS) (p : Str) (rw : Rw), vs = [.ref g, .str p, .ref r] ∧ GoAt CP CG H g A N ns S ∧ RowAt H r rw ∧ RowK N p rw ∧ ∀ H', Same H H' → Q (optI (earlyR N S.gv p rw)) H'
theorem ok_early_word (T : Tc K mg CP CG) : MCl P w K mg base 5 CG "early_word" ["self", "part", "row"] (spEarly CP CG) := by
  have C_key_of := ok_key_of (P := P) (w := w) (base := base) T
  have C_read_names := ok_read_names (P := P) (w := w) (base := base) T.toTxt
  refine MCl.of T.m_early_word sc_Going_early_word (fun vs H Q E h => ?_) (fun _ _ _ _ _ _ us hl => len3 us hl (fun _ _ _ => rfl)) (fun fa cdv A outer s H vs Q E hr h => ?_)
  · obtain ⟨g, r, A, N, ns, S, p, rw, rfl, _⟩ := h
    rfl
  · obtain ⟨g, r, A, N, ns, S, p, rw, rfl, hG, hra, hK, q⟩ := h
    have hu := hu_of hr
    refine ⟨_, (pss_cons (ps_for PassesOwn.never rfl (pi_tup (pe_fn C_read_names hr (by rfl) (pa_cons (pv 2) pa_nil))) (pg_tup rfl (pgs_cons (pg_name (i := 3) sc_Going_early_word.nd rfl (Or.inl rfl)) (pgs_cons (pg_name (i := 4) sc_Going_early_word.nd rfl (Or.inl rfl)) pgs_nil)))
        (pss_one (ps_if (pt_cmp (pc_dnotin hu (pe_m C_key_of T.c_PartsWalk hr (pe_fld (pv 0) rfl) (pa_cons (pv 1) (pa_cons (pv 4) pa_nil))) (pe_fld (pv 0) rfl)))
          (pss_one (ps_ret (pv 3))) pss_nil)))
      (pss_one (ps_ret pe_non))), ?_⟩
    refine ⟨_, rfl, r, rdR rw, rfl, row_rd hra, fun t ws H1 s1 ht hnm => ?_⟩
    have hwl : ws.length = (rdR rw).length := Paired.length hnm
    refine ⟨t, rfl, ⟨_, SqT.of ht⟩, for_tup (K := K) (a := t) (xs := ws) (fun i σ H2 => ∃ v3 v4 : Option V, σ = [some (.ref g), some (.str p), some (.ref r), v3, v4] ∧ Same H1 H2 ∧ ∀ d ∈ (rdR rw).take i, (!(lk N S.gv p d.2).isSome) = false)
      ⟨none, none, rfl, Same.refl H1, fun d hd => by simp at hd⟩ (fun i σ H2 _ ⟨_, _, _, s2, _⟩ => SqT.of (s2 _ _ ht)) ?_ ?_⟩
    · rintro i y σ H2 hy ⟨v3, v4, rfl, s2, hall⟩
      obtain ⟨d, hd, tp, ep, htp⟩ := Paired.get? hnm hy
      subst ep
      have hdm := List.mem_of_getElem? hd
      obtain ⟨k, ek⟩ := mk_get (hK.rd d hdm)
      have hG2 := hG.same (s1.trans s2)
      obtain ⟨dx, v, hg, _⟩ := hG2.ob
      obtain ⟨dw, rd, md, kvr, kvm, hw, _⟩ := hG2.wk.ex
      refine ⟨tp, _, rfl, SqT.of (s2 _ _ htp), rfl, _, _, rfl, _, _, rfl, rfl, ?_⟩
      refine ⟨_, rfl, g, CG, dx, _, _, rfl, hg, T.c_Going, T.nG_walk, lg_walk, A.w, dw, _, rfl, hw, lw_key_of, _, rfl, _, rfl, A.w, p, d.2, N, k, rfl, hG2.wk, ek, fun tk H3 s3 ht3 => ?_⟩
      have hG3 := hG2.same s3
      have hg3 := s3 _ _ hg
      have hgt := DGet.t (k := kN k) hG3.gv ht3
      refine ⟨_, rfl, g, CG, dx, _, _, rfl, hg3, T.c_Going, T.nG_given, lg_given, A.gv, _, rfl, hgt, _, rfl, ?_⟩
      have hlk := off_key (gv := S.gv) ek
      cases e2 : (valV S.gv (kN k)).isSome with
      | true =>
        refine iteF ?_
        refine ⟨_, _, rfl, s2.trans s3, fun d' hd' => ?_⟩
        rw [take_succ_get hd] at hd'
        rcases List.mem_append.mp hd' with z | z
        · exact hall d' z
        · rw [List.mem_singleton.mp z, hlk, e2]
          rfl
      | false =>
        refine iteT ?_
        have he : earlyR N S.gv p rw = some d.1 := by
          unfold earlyR
          rw [find_at hall hd (by rw [hlk, e2]; rfl)]
          rfl
        have := q H3 ((s1.trans s2).trans s3)
        rw [he] at this
        exact ⟨_, rfl, this⟩
    · rintro σ H2 ⟨v3, v4, rfl, s2, hall⟩
      have he : earlyR N S.gv p rw = none := by
        unfold earlyR
        rw [hwl, List.take_length] at hall
        rw [List.find?_eq_none.mpr (fun x hx => by rw [hall x hx]; exact Bool.false_ne_true)]
        rfl
      have := q H2 (s1.trans s2)
      rw [he] at this
      exact this
theorem paired_app {α β : Type} {F : α → β → Prop} : ∀ {xs us : List α} {ys vs : List β}, Paired F xs ys → Paired F us vs → Paired F (xs ++ us) (ys ++ vs)
  | _, _, _, _, .nil, k => k
  | _, _, _, _, .cons h t, k => .cons h (paired_app t k)
theorem paired_rev {α β : Type} {F : α → β → Prop} : ∀ {xs : List α} {ys : List β}, Paired F xs ys → Paired F xs.reverse ys.reverse
  | _, _, .nil => .nil
  | _, _, .cons h t => by
    rw [List.reverse_cons, List.reverse_cons]
    exact paired_app (paired_rev t) (.cons h .nil)
theorem rowsN_eq {N : Nt} (hn : (N.ps.map (·.1)).Nodup) {p : Str} {rs : List Rw} (h : (p, rs) ∈ N.ps) : rowsN N p = rs := by
  unfold rowsN
  have : N.ps.find? (fun q => decide (q.1 = p)) = some (p, rs) := by
    generalize N.ps = l at hn h
    induction l with
    | nil => simp at h
    | cons a l ih =>
      rw [List.map_cons, List.nodup_cons] at hn
      rcases List.mem_cons.mp h with z | z
      · rw [← z, List.find?_cons]
        simp
      · have hne : ¬ a.1 = p := fun e => hn.1 (by rw [e]; exact List.mem_map_of_mem (f := (·.1)) z)
        rw [List.find?_cons, decide_eq_false hne]
        exact ih hn.2 z
  rw [this]
  rfl
noncomputable def spBegin (CP CG : Addr) : Sp := fun vs H Q _ => ∃ (g : Addr) (A : GA) (N : Nt) (ns : List Int) (S : GS) (p : Str) (rs : List Rw), vs = [.ref g, .str p] ∧ GoAt CP CG H g A N ns S ∧ (p, rs) ∈ N.ps ∧ rowsN N p = rs ∧ rs.length ≤ 900 ∧ S.wt.length + rs.length ≤ 1000 ∧ S.bg.length ≤ 900 ∧ ∀ H', Fr g A H H' → GoAt CP CG H' g A N ns (beginS N S p) → Q .non H'
theorem ok_begin (T : Tc K mg CP CG) : MCl P w K mg base 2 CG "begin" ["self", "part"] (spBegin CP CG) := by
  have C_rows_of := ok_rows_of (P := P) (w := w) (base := base) T
  refine MCl.of T.m_begin sc_Going_begin (fun vs H Q E h => ?_) (fun _ _ _ _ _ _ us hl => len2 us hl (fun _ _ => rfl)) (fun fa cdv A outer s H vs Q E hr h => ?_)
  · obtain ⟨g, A, N, ns, S, p, rs, rfl, _⟩ := h
    rfl
  · obtain ⟨g, A, N, ns, S, p, rs, rfl, hG, hm, hrs, hl9, hwl, hbl, q⟩ := h
    have hu := hu_of hr
    obtain ⟨dx, v, hg, _⟩ := hG.ob
    refine ⟨_, (pss_cons (ps_dput hu (pe_fld (pv 0) rfl) (pv 1) pe_bl rfl)
      (pss_one (ps_for PassesOwn.never rfl (pi_rev (by rfl) T.n_reversed (pe_m C_rows_of T.c_PartsWalk hr (pe_fld (pv 0) rfl) (pa_cons (pv 1) pa_nil))) (pg_tup rfl (pgs_cons (pg_name (i := 2) sc_Going_begin.nd rfl (Or.inl rfl)) (pgs_cons (pg_name (i := 3) sc_Going_begin.nd rfl (Or.inl rfl)) (pgs_cons (pg_name (i := 4) sc_Going_begin.nd rfl (Or.inl rfl)) pgs_nil))))
        (pss_one (ps_expr (pe_bm PySem.F.plainAttrs_list PySem.F.slot_list_append PySem.F.type_list_append mt_append (pe_fld (pv 0) rfl) (pa_cons (pe_tup (pa_cons (pv 1) (pa_cons (pe_tup (pa_cons (pv 2) (pa_cons (pv 3) pa_nil))) (pa_cons (pv 4) pa_nil)))) pa_nil))))))), ?_⟩
    refine ⟨_, rfl, g, CG, dx, _, _, rfl, hg, T.c_Going, T.nG_begun, lg_begun, _, rfl, A.b, _, rfl, DPut.k (k := Sum.inr p) hG.bg (small1000 (by rw [setD_len]; omega)), ?_⟩
    rw [setD_put]
    obtain ⟨f1, hG1⟩ := hG.setBegun (addN S.bg p)
    generalize upd H A.b (.dK (setD (addN S.bg p))) = H1 at f1 hG1 ⊢
    obtain ⟨dx1, v1, hg1, _⟩ := hG1.ob
    obtain ⟨dw, rd, md, kvr, kvm, hw1, _⟩ := hG1.wk.ex
    refine ⟨_, rfl, g, CG, dx1, _, _, rfl, hg1, T.c_Going, T.nG_walk, lg_walk, A.w, dw, _, rfl, hw1, lw_rows_of, _, rfl, A.w, p, rs, N, rfl, hG1.wk, hm, hl9, fun t vs H2 s2 ht hvs => ?_⟩
    have hrv := paired_rev hvs
    have hvl : vs.length = rs.length := by rw [Paired.length hvs, idx_len]
    refine ⟨t, vs, rfl, SqT.of ht, for_rev (K := K) (a := t) (xs := vs) (fun i σ H3 => ∃ v2 v3 v4 : Option V, σ = [some (.ref g), some (.str p), v2, v3, v4] ∧ Fr g A H H3 ∧ Tups H2 H3 ∧ GoAt CP CG H3 g A N ns { S with bg := addN S.bg p, wt := S.wt ++ (idxRows p rs).reverse.take i })
      ⟨none, none, none, rfl, f1.trans (s2.fr g A), Tups.refl H2, by rw [List.take_zero, List.append_nil]; exact hG1.same s2⟩ (fun i σ H3 _ ⟨_, _, _, _, _, T3, _⟩ => SqT.of (T3 _ _ ht)) ?_ ?_⟩
    · rintro i y σ H3 hy ⟨v2, v3, v4, rfl, f3, T3, hG3⟩
      have hi : i < vs.reverse.length := (List.getElem?_eq_some_iff.mp hy).1
      rw [List.length_reverse] at hi
      obtain ⟨x, hx, tt, r, ey, htt, hra⟩ := Paired.get? hrv hy
      subst ey
      have hx1 : x.1 = p := by
        have := List.mem_reverse.mp (List.mem_of_getElem? hx)
        unfold idxRows at this
        obtain ⟨j, hj, e⟩ := List.mem_mapIdx.mp this
        rw [← e]
      refine ⟨tt, _, rfl, SqT.of (T3 _ _ htt), rfl, _, _, rfl, _, _, rfl, _, _, rfl, rfl, ?_⟩
      obtain ⟨dx3, w3, hg3, _⟩ := hG3.ob
      obtain ⟨us, hus, hup⟩ := hG3.wt
      refine ⟨_, rfl, g, CG, dx3, _, _, rfl, hg3, T.c_Going, T.nG_waiting, lg_waiting, .inl ⟨rfl, _, SqL.of hus⟩, _, rfl, _, rfl, _, rfl, (by show 2 ≤ sizeLine; decide), fun wh gwh => ?_⟩
      have s4 : Same H3 (upd H3 wh (.tup [.str x.1, .int (x.2.1 : Int)])) := (Same.refl H3).new gwh
      have hwh4 : upd H3 wh (.tup [.str x.1, .int (x.2.1 : Int)]) wh = some (.tup [.str x.1, .int (x.2.1 : Int)]) := upd_same
      generalize upd H3 wh (.tup [.str x.1, .int (x.2.1 : Int)]) = H4 at s4 hwh4 ⊢
      refine ⟨_, rfl, (by show 3 ≤ sizeLine; decide), fun t5 gt5 => ?_⟩
      have s5 : Same H4 (upd H4 t5 (.tup [.str p, .ref wh, .ref r])) := (Same.refl H4).new gt5
      have ht5 : upd H4 t5 (.tup [.str p, .ref wh, .ref r]) t5 = some (.tup [.str p, .ref wh, .ref r]) := upd_same
      generalize upd H4 t5 (.tup [.str p, .ref wh, .ref r]) = H5 at s5 ht5 ⊢
      have s35 := s4.trans s5
      have hG5 := hG3.same s35
      have hlen : us.length ≤ 999 := by
        have e1 := Paired.length hup
        have e2 : (S.wt ++ (idxRows p rs).reverse.take i).length ≤ S.wt.length + i := by
          rw [List.length_append, List.length_take]; omega
        have e3 : us.length = (S.wt ++ (idxRows p rs).reverse.take i).length := e1
        omega
      refine ⟨A.wt, _, _, rfl, rfl, s35 _ _ hus, small1000 (by omega), ?_⟩
      have hnew : Paired (WtAt H5) (us ++ [.ref t5]) (S.wt ++ (idxRows p rs).reverse.take (i + 1)) := by
        rw [take_succ_get hx, ← List.append_assoc]
        refine Paired.snoc (Paired.mapP hup fun _ _ z => z.mono s35.tups) ⟨t5, wh, r, rfl, by rw [hx1]; exact ht5, s5 _ _ hwh4, (hra.mono T3).mono s35.tups⟩
      obtain ⟨f6, hG6⟩ := hG5.setWait hnew
      exact ⟨_, _, _, rfl, (f3.trans (s35.fr g A)).trans f6, (T3.trans s35.tups).trans (hG5.tups f6), hG6⟩
    · rintro σ H3 ⟨v2, v3, v4, rfl, f3, T3, hG3⟩
      refine q H3 f3 ?_
      unfold beginS
      rw [hrs]
      rw [hvl, List.take_of_length_le (by rw [List.length_reverse, idx_len]; exact Nat.le_refl _)] at hG3
      exact hG3
noncomputable def spEnter (CP CG : Addr) : Sp := fun vs H Q _ => ∃ (g : Addr) (A : GA) (N : Nt) (ns : List Int) (S : GS) (kd p : Str) (rs : List Rw), vs = [.ref g, .str kd, .str p] ∧ GoAt CP CG H g A N ns S ∧ (p, rs) ∈ N.ps ∧ rowsN N p = rs ∧ rs.length ≤ 900 ∧ (p ∉ S.bg → S.wt.length + rs.length ≤ 1000) ∧ S.bg.length ≤ 900 ∧ ∀ H', Fr g A H H' → GoAt CP CG H' g A N ns (enterS N S p) → Q .non H'
theorem ok_enter (T : Tc K mg CP CG) : MCl P w K mg base 3 CG "enter" ["self", "kind", "part"] (spEnter CP CG) := by
  have C_begin := ok_begin (P := P) (w := w) (base := base) T
  have C_load := ok_load (P := P) (w := w) (base := base) T
  have C_loads_of := ok_loads_of (P := P) (w := w) (base := base) T
  refine MCl.of T.m_enter sc_Going_enter (fun vs H Q E h => ?_) (fun _ _ _ _ _ _ us hl => len3 us hl (fun _ _ _ => rfl)) (fun fa cdv A outer s H vs Q E hr h => ?_)
  · obtain ⟨g, A, N, ns, S, kd, p, rs, rfl, _⟩ := h
    rfl
  · obtain ⟨g, A, N, ns, S, kd, p, rs, rfl, hG, hm, hrs, hl9, hwl, hbl, q⟩ := h
    have hu := hu_of hr
    obtain ⟨dx, v, hg, _⟩ := hG.ob
    obtain ⟨dw, rd, md, kvr, kvm, hw, _⟩ := hG.wk.ex
    refine ⟨_, (pss_cons (ps_if (pt_cmp (pc_din hu (pv 2) (pe_fld (pv 0) rfl)))
        (pss_one ps_retN) pss_nil)
      (pss_cons (ps_if (pt_cmpR op_eq (pv 1) pe_str (nomark _))
        (pss_one (ps_expr (pe_m C_load T.c_Going hr (pv 0) (pa_cons (pe_m C_loads_of T.c_PartsWalk hr (pe_fld (pv 0) rfl) (pa_cons (pv 2) pa_nil)) pa_nil)))) pss_nil)
      (pss_one (ps_expr (pe_m C_begin T.c_Going hr (pv 0) (pa_cons (pv 2) pa_nil)))))), ?_⟩
    refine ⟨_, rfl, _, rfl, g, CG, dx, _, _, rfl, hg, T.c_Going, T.nG_begun, lg_begun, A.b, _, rfl, DGet.k (k := Sum.inr p) hG.bg, _, rfl, ?_⟩
    rw [setD_some]
    by_cases hin : p ∈ S.bg
    · rw [decide_eq_true hin]
      refine iteT ?_
      have := q H (Fr.refl g A H)
      unfold enterS at this
      rw [if_pos hin] at this
      exact this hG
    · rw [decide_eq_false hin]
      refine iteF ?_
      have q' : ∀ H', Fr g A H H' → GoAt CP CG H' g A N ns (beginS N S p) → Q .non H' := fun H' f h => by
        refine q H' f ?_
        unfold enterS
        rw [if_neg hin]
        exact h
      refine ⟨_, rfl, rfl, _, rfl, ite2 (fun _ => ?_) (fun _ => ?_)⟩
      · refine ⟨_, rfl, g, dx, _, rfl, hg, lg_load, _, rfl, g, CG, dx, _, _, rfl, hg, T.c_Going, T.nG_walk, lg_walk, A.w, dw, _, rfl, hw, lw_loads_of, _, rfl, A.w, p, N, rfl, hG.wk, fun t H1 s1 ht => ?_⟩
        refine ⟨g, t, rfl, ht, ?_⟩
        exact ⟨_, rfl, g, dx, _, rfl, s1 _ _ hg, lg_begin, _, rfl, g, A, N, ns, S, p, rs, rfl, hG.same s1, hm, hrs, hl9, hwl hin, hbl, fun H2 f2 hG2 => q' H2 ((s1.fr g A).trans f2) hG2⟩
      · exact ⟨_, rfl, g, dx, _, rfl, hg, lg_begin, _, rfl, g, A, N, ns, S, p, rs, rfl, hG, hm, hrs, hl9, hwl hin, hbl, q'⟩
noncomputable def isWorkR : Rw → Prop
  | .set _ _ => True
  | .take _ => True
  | .say _ _ => True
  | .need _ => True
  | .give _ _ => True
  | _ => False
noncomputable def spWork (CP CG : Addr) : Sp := fun vs H Q _ => ∃ (g wh r : Addr) (A : GA) (N : Nt) (ns : List Int) (S : GS) (p : Str) (j : Nat) (rw : Rw), vs = [.ref g, .str p, .ref wh, .ref r] ∧ GoAt CP CG H g A N ns S ∧ H wh = some (.tup [.str p, .int (j : Int)]) ∧ RowAt H r rw ∧ RowK N p rw ∧ isWorkR rw ∧ (∀ d ∈ rdR rw, (lk N S.gv p d.2).isSome = true) ∧ S.gv.length ≤ 990 ∧ S.tr.length ≤ 990 ∧ ∀ H', Fr g A H H' → GoAt CP CG H' g A N ns (workS N ns S p j rw) → Q .non H'
theorem ok_do_work (T : Tc K mg CP CG) : MCl P w K mg base 4 CG "do_work" ["self", "part", "where", "row"] (spWork CP CG) := by
  have C_value_of := ok_value_of (P := P) (w := w) (base := base) T
  have C_give := ok_give (P := P) (w := w) (base := base) T
  have C_next_told := ok_next_told (P := P) (w := w) (base := base) T
  refine MCl.of T.m_do_work sc_Going_do_work (fun vs H Q E h => ?_) (fun _ _ _ _ _ _ us hl => len4 us hl (fun _ _ _ _ => rfl)) (fun fa cdv A outer s H vs Q E hr h => ?_)
  · obtain ⟨g, wh, r, A, N, ns, S, p, j, rw, rfl, _⟩ := h
    rfl
  · obtain ⟨g, wh, r, A, N, ns, S, p, j, rw, rfl, hG, hwh, hra, hK, hwk, hrd, hgl, htl, q⟩ := h
    obtain ⟨dx, v, hg, hft⟩ := hG.ob
    obtain ⟨us, hus, hup⟩ := hG.tr
    have hul : us.length ≤ 990 := by rw [Paired.length hup]; exact htl
    have hnm : ∀ d ∈ sgR rw, ∀ x, d.2 = .nam x → (lk N S.gv p x).isSome = true := fun d hd x e => by
      obtain ⟨e', he', ee⟩ := hK.nm d hd x e
      rw [← ee]
      exact hrd e' he'
    refine ⟨_, (pss_cons (ps_set (i := 4) sc_Going_do_work.nd rfl (Or.inl rfl) (pe_ix ix_tup (pv 3) pe_int (fun _ _ => rfl)))
      (pss_one (ps_if (pt_cmpR op_eq (pv 4) pe_str (nomark _))
        (pss_one (ps_expr (pe_m C_give T.c_Going hr (pv 0) (pa_cons (pv 1) (pa_cons (pe_ix ix_tup (pv 3) pe_int (fun _ _ => rfl)) (pa_cons (pe_m C_value_of T.c_Going hr (pv 0) (pa_cons (pv 1) (pa_cons (pe_ix ix_tup (pv 3) pe_int (fun _ _ => rfl)) pa_nil))) pa_nil)))))) (pss_one (ps_if (pt_cmpR op_eq (pv 4) pe_str (nomark _))
          (pss_cons (ps_set (i := 5) sc_Going_do_work.nd rfl (Or.inl rfl) (pe_m0 C_next_told T.c_Going hr (pv 0)))
          (pss_cons (ps_expr (pe_m C_give T.c_Going hr (pv 0) (pa_cons (pv 1) (pa_cons (pe_ix ix_tup (pv 3) pe_int (fun _ _ => rfl)) (pa_cons (pv 5) pa_nil)))))
          (pss_one (ps_expr (pe_bm PySem.F.plainAttrs_list PySem.F.slot_list_append PySem.F.type_list_append mt_append (pe_fld (pv 0) rfl) (pa_cons (pe_op op_catA (pe_tup (pa_cons pe_str (pa_cons (pv 5) pa_nil))) (pv 2)) pa_nil)))))) (pss_one (ps_if (pt_cmpR op_eq (pv 4) pe_str (nomark _))
            (pss_one (ps_expr (pe_bm PySem.F.plainAttrs_list PySem.F.slot_list_append PySem.F.type_list_append mt_append (pe_fld (pv 0) rfl) (pa_cons (pe_op op_catA (pe_tup (pa_cons pe_str (pa_cons (pe_m C_value_of T.c_Going hr (pv 0) (pa_cons (pv 1) (pa_cons (pe_ix ix_tup (pv 3) pe_int (fun _ _ => rfl)) pa_nil))) pa_nil))) (pv 2)) pa_nil)))) (pss_one (ps_if (PW.pt (pw_and (pt_cmpR op_eq (pv 4) pe_str (nomark _)) (pw_and1 (pt_cmpR op_le (pe_m C_value_of T.c_Going hr (pv 0) (pa_cons (pv 1) (pa_cons (pe_ix ix_tup (pv 3) pe_int (fun _ _ => rfl)) pa_nil))) pe_int (nomark _)))))
              (pss_one (ps_fld (pv 0) (pe_op op_catA (pe_op op_catA (pe_tup (pa_cons pe_str pa_nil)) (pv 2)) (pe_tup (pa_cons pe_int pa_nil))) rfl)) pss_nil))))))))), ?_⟩
    cases rw with
    | set o ts =>
      obtain ⟨t, hrt, hts⟩ := hra
      obtain ⟨k, ek⟩ := mk_get (hK.ow o rfl)
      refine ⟨_, rfl, r, _, _, _, rfl, rfl, SqT.of hrt, rfl, ?_⟩
      refine ⟨_, rfl, rfl, _, rfl, iteSE ?_⟩
      refine ⟨_, rfl, g, dx, _, rfl, hg, lg_give, _, rfl, _, rfl, r, _, _, _, rfl, rfl, SqT.of hrt, rfl, ?_⟩
      refine ⟨_, rfl, g, dx, _, rfl, hg, lg_value_of, _, rfl, _, rfl, r, _, _, _, rfl, rfl, SqT.of hrt, rfl, g, t, A, N, ns, S, p, ts, rfl, hG, hts, hK.sg, hnm, fun H1 s1 => ?_⟩
      refine ⟨g, A, N, ns, S, p, o, _, k, rfl, hG.same s1, ek, by omega, fun H2 f2 hG2 => ?_⟩
      refine q H2 ((s1.fr g A).trans f2) ?_
      show GoAt CP CG H2 g A N ns (match N.km (p, o) with | some q => { S with gv := putK S.gv (kN q) (.int (sumV N S.gv p ts)) } | none => S)
      rw [ek]
      exact hG2
    | take o =>
      have hrt : H r = some (.tup [.str "take", .str o]) := hra
      obtain ⟨k, ek⟩ := mk_get (hK.ow o rfl)
      refine ⟨_, rfl, r, _, _, _, rfl, rfl, SqT.of hrt, rfl, ?_⟩
      refine ⟨_, rfl, rfl, _, rfl, iteSN (show ¬ ("take" : Str) = "set" by decide +kernel) ?_⟩
      refine ⟨_, rfl, rfl, _, rfl, iteSE ?_⟩
      refine ⟨_, rfl, g, dx, _, rfl, hg, lg_next_told, g, A, N, ns, S, rfl, hG, fun H1 f1 hG1 => ?_⟩
      have T1 := hG.tups f1
      obtain ⟨dx1, v1, hg1, _⟩ := hG1.ob
      refine ⟨_, rfl, g, dx1, _, rfl, hg1, lg_give, _, rfl, _, rfl, r, _, _, _, rfl, rfl, SqT.of (T1 _ _ hrt), rfl, _, rfl, g, A, N, ns, _, p, o, _, k, rfl, hG1, ek, by show S.gv.length ≤ 1000; omega, fun H2 f2 hG2 => ?_⟩
      have T2 := T1.trans (hG1.tups f2)
      obtain ⟨dx2, v2, hg2, _⟩ := hG2.ob
      obtain ⟨us2, hus2, hup2⟩ := hG2.tr
      have hul2 : us2.length ≤ 990 := by rw [Paired.length hup2]; exact htl
      refine ⟨_, rfl, g, CG, dx2, _, _, rfl, hg2, T.c_Going, T.nG_trace, lg_trace, .inl ⟨rfl, _, SqL.of hus2⟩, _, rfl, (by show 2 ≤ sizeLine; decide), fun t3 gt3 => ?_⟩
      have s3 : Same H2 (upd H2 t3 (.tup [.str "take", .int (ns.getD S.tk 0)])) := (Same.refl H2).new gt3
      have ht3 : upd H2 t3 (.tup [.str "take", .int (ns.getD S.tk 0)]) t3 = some (.tup [.str "take", .int (ns.getD S.tk 0)]) := upd_same
      generalize upd H2 t3 (.tup [.str "take", .int (ns.getD S.tk 0)]) = H3 at s3 ht3 ⊢
      refine ⟨_, rfl, t3, wh, _, _, rfl, rfl, SqT.of ht3, SqT.of (s3 _ _ (T2 _ _ hwh)), (by show 4 ≤ sizeLine; decide), (fun z => by cases z), (fun _ z => by cases z), fun _ _ t4 gt4 => ?_⟩
      have s4 : Same H2 (upd H3 t4 (.tup ([.str "take", .int (ns.getD S.tk 0)] ++ [.str p, .int (j : Int)]))) := s3.new gt4
      have ht4 : upd H3 t4 (.tup ([.str "take", .int (ns.getD S.tk 0)] ++ [.str p, .int (j : Int)])) t4 = some (.tup ([.str "take", .int (ns.getD S.tk 0)] ++ [.str p, .int (j : Int)])) := upd_same
      generalize upd H3 t4 (.tup ([.str "take", .int (ns.getD S.tk 0)] ++ [.str p, .int (j : Int)])) = H4 at s4 ht4 ⊢
      have hG4 := hG2.same s4
      refine ⟨A.tr, _, _, rfl, rfl, s4 _ _ hus2, small1000 (by omega), ?_⟩
      obtain ⟨f5, hG5⟩ := hG4.pushTrace (d := ("take", ns.getD S.tk 0, p, j)) (s4 _ _ hus2) ⟨t4, rfl, ht4⟩
      refine q _ (((f1.trans f2).trans (s4.fr g A)).trans f5) ?_
      show GoAt CP CG _ g A N ns (match N.km (p, o) with | some q => { S with tk := if S.tk = ns.length then S.tk else S.tk + 1, gv := putK S.gv (kN q) (.int (ns.getD S.tk 0)), tr := S.tr ++ [(("take" : Str), ns.getD S.tk 0, p, j)] } | none => S)
      rw [ek]
      exact hG5
    | say ts wn =>
      obtain ⟨t, hrt, hts⟩ := hra
      refine ⟨_, rfl, r, _, _, _, rfl, rfl, SqT.of hrt, rfl, ?_⟩
      refine ⟨_, rfl, rfl, _, rfl, iteSN (show ¬ ("say" : Str) = "set" by decide +kernel) ?_⟩
      refine ⟨_, rfl, rfl, _, rfl, iteSN (show ¬ ("say" : Str) = "take" by decide +kernel) ?_⟩
      refine ⟨_, rfl, rfl, _, rfl, iteSE ?_⟩
      refine ⟨_, rfl, g, CG, dx, _, _, rfl, hg, T.c_Going, T.nG_trace, lg_trace, .inl ⟨rfl, _, SqL.of hus⟩, ?_⟩
      refine ⟨_, rfl, g, dx, _, rfl, hg, lg_value_of, _, rfl, _, rfl, r, _, _, _, rfl, rfl, SqT.of hrt, rfl, g, t, A, N, ns, S, p, ts, rfl, hG, hts, hK.sg, hnm, fun H2 s2 => ?_⟩
      refine ⟨(by show 2 ≤ sizeLine; decide), fun t3 gt3 => ?_⟩
      have s3 : Same H (upd H2 t3 (.tup [.str "say", .int (sumV N S.gv p ts)])) := s2.new gt3
      have ht3 : upd H2 t3 (.tup [.str "say", .int (sumV N S.gv p ts)]) t3 = some (.tup [.str "say", .int (sumV N S.gv p ts)]) := upd_same
      generalize upd H2 t3 (.tup [.str "say", .int (sumV N S.gv p ts)]) = H3 at s3 ht3 ⊢
      refine ⟨_, rfl, t3, wh, _, _, rfl, rfl, SqT.of ht3, SqT.of (s3 _ _ hwh), (by show 4 ≤ sizeLine; decide), (fun z => by cases z), (fun _ z => by cases z), fun _ _ t4 gt4 => ?_⟩
      have s4 : Same H (upd H3 t4 (.tup ([.str "say", .int (sumV N S.gv p ts)] ++ [.str p, .int (j : Int)]))) := s3.new gt4
      have ht4 : upd H3 t4 (.tup ([.str "say", .int (sumV N S.gv p ts)] ++ [.str p, .int (j : Int)])) t4 = some (.tup ([.str "say", .int (sumV N S.gv p ts)] ++ [.str p, .int (j : Int)])) := upd_same
      generalize upd H3 t4 (.tup ([.str "say", .int (sumV N S.gv p ts)] ++ [.str p, .int (j : Int)])) = H4 at s4 ht4 ⊢
      have hG4 := hG.same s4
      refine ⟨A.tr, _, _, rfl, rfl, s4 _ _ hus, small1000 (by omega), ?_⟩
      obtain ⟨f5, hG5⟩ := hG4.pushTrace (d := ("say", sumV N S.gv p ts, p, j)) (s4 _ _ hus) ⟨t4, rfl, ht4⟩
      exact q _ ((s4.fr g A).trans f5) hG5
    | need ts =>
      obtain ⟨t, hrt, hts⟩ := hra
      refine ⟨_, rfl, r, _, _, _, rfl, rfl, SqT.of hrt, rfl, ?_⟩
      refine ⟨_, rfl, rfl, _, rfl, iteSN (show ¬ ("need" : Str) = "set" by decide +kernel) ?_⟩
      refine ⟨_, rfl, rfl, _, rfl, iteSN (show ¬ ("need" : Str) = "take" by decide +kernel) ?_⟩
      refine ⟨_, rfl, rfl, _, rfl, iteSN (show ¬ ("need" : Str) = "say" by decide +kernel) ?_⟩
      refine ⟨_, rfl, rfl, _, rfl, iteSE ?_⟩
      refine ⟨_, rfl, g, dx, _, rfl, hg, lg_value_of, _, rfl, _, rfl, r, _, _, _, rfl, rfl, SqT.of hrt, rfl, g, t, A, N, ns, S, p, ts, rfl, hG, hts, hK.sg, hnm, fun H2 s2 => ?_⟩
      refine ⟨_, _, rfl, rfl, _, rfl, ite2 (fun c1 => ?_) (fun c1 => ?_)⟩
      · have hle : sumV N S.gv p ts ≤ 0 := by simpa using c1
        refine ⟨(by show 1 ≤ sizeLine; decide), fun t3 gt3 => ?_⟩
        have s3 : Same H (upd H2 t3 (.tup [.str "need"])) := s2.new gt3
        have ht3 : upd H2 t3 (.tup [.str "need"]) t3 = some (.tup [.str "need"]) := upd_same
        generalize upd H2 t3 (.tup [.str "need"]) = H3 at s3 ht3 ⊢
        refine ⟨_, rfl, t3, wh, _, _, rfl, rfl, SqT.of ht3, SqT.of (s3 _ _ hwh), (by show 3 ≤ sizeLine; decide), (fun z => by cases z), (fun _ z => by cases z), fun _ _ t4 gt4 => ?_⟩
        have s4 : Same H (upd H3 t4 (.tup ([.str "need"] ++ [.str p, .int (j : Int)]))) := s3.new gt4
        have ht4 : upd H3 t4 (.tup ([.str "need"] ++ [.str p, .int (j : Int)])) t4 = some (.tup ([.str "need"] ++ [.str p, .int (j : Int)])) := upd_same
        generalize upd H3 t4 (.tup ([.str "need"] ++ [.str p, .int (j : Int)])) = H4 at s4 ht4 ⊢
        refine ⟨(by show 1 ≤ sizeLine; decide), fun t5 gt5 => ?_⟩
        have s5 : Same H (upd H4 t5 (.tup [.int 0])) := s4.new gt5
        have ht5 : upd H4 t5 (.tup [.int 0]) t5 = some (.tup [.int 0]) := upd_same
        have ht45 := upd_keep (o := .tup [.int 0]) ht4 gt5
        generalize upd H4 t5 (.tup [.int 0]) = H5 at s5 ht5 ht45 ⊢
        refine ⟨t4, t5, _, _, rfl, rfl, SqT.of ht45, SqT.of ht5, (by show 4 ≤ sizeLine; decide), (fun z => by cases z), (fun _ z => by cases z), fun _ _ t6 gt6 => ?_⟩
        have s6 : Same H (upd H5 t6 (.tup (([.str "need"] ++ [.str p, .int (j : Int)]) ++ [.int 0]))) := s5.new gt6
        have ht6 : upd H5 t6 (.tup (([.str "need"] ++ [.str p, .int (j : Int)]) ++ [.int 0])) t6 = some (.tup (([.str "need"] ++ [.str p, .int (j : Int)]) ++ [.int 0])) := upd_same
        generalize upd H5 t6 (.tup (([.str "need"] ++ [.str p, .int (j : Int)]) ++ [.int 0])) = H6 at s6 ht6 ⊢
        have hG6 := hG.same s6
        refine ⟨_, rfl, g, CG, dx, _, rfl, s6 _ _ hg, T.c_Going, T.nG_fault, gF_len, ?_⟩
        rw [put_fault]
        obtain ⟨f7, hG7⟩ := hG6.setSelf (dx := dx) (tk := S.tk) (v := .ref t6) (ft := some ("need", p, j, 0)) ⟨t6, rfl, ht6⟩ hG.tkl
        refine q _ ((s6.fr g A).trans f7) ?_
        show GoAt CP CG _ g A N ns (if sumV N S.gv p ts ≤ 0 then { S with ft := some ("need", p, j, 0) } else S)
        rw [if_pos hle]
        exact hG7
      · have hle : ¬ sumV N S.gv p ts ≤ 0 := by simpa using c1
        refine q H2 (s2.fr g A) ?_
        show GoAt CP CG _ g A N ns (if sumV N S.gv p ts ≤ 0 then { S with ft := some ("need", p, j, 0) } else S)
        rw [if_neg hle]
        exact hG.same s2
    | give o gg =>
      have hrt : H r = some (.tup [.str "give", .str o, .str gg]) := hra
      refine ⟨_, rfl, r, _, _, _, rfl, rfl, SqT.of hrt, rfl, ?_⟩
      refine ⟨_, rfl, rfl, _, rfl, iteSN (show ¬ ("give" : Str) = "set" by decide +kernel) ?_⟩
      refine ⟨_, rfl, rfl, _, rfl, iteSN (show ¬ ("give" : Str) = "take" by decide +kernel) ?_⟩
      refine ⟨_, rfl, rfl, _, rfl, iteSN (show ¬ ("give" : Str) = "say" by decide +kernel) ?_⟩
      refine ⟨_, rfl, rfl, _, rfl, iteSN (show ¬ ("give" : Str) = "need" by decide +kernel) ?_⟩
      show if false = true then _ else _
      refine iteF ?_
      exact q H (Fr.refl g A H) hG
    | _ => exact hwk.elim
structure NtOk (N : Nt) : Prop where
  nd : (N.ps.map (·.1)).Nodup
  rk : ∀ p rs, (p, rs) ∈ N.ps → ∀ rw ∈ rs, RowK N p rw
  tg : ∀ p rs, (p, rs) ∈ N.ps → ∀ rw ∈ rs, ∀ q, (∃ ps, rw = .bring q ps) ∨ (∃ wh, rw = .ask q wh) → q ∈ N.ps.map (·.1)
  kd : ∀ p rs, (p, rs) ∈ N.ps → ∀ rw ∈ rs, isWork rw = true
  tot : (N.ps.map fun x => x.2.length).sum ≤ 900
  len : N.ps.length ≤ 24
noncomputable def leftN (N : Nt) (bg : List Str) : Nat := ((N.ps.filter fun x => decide (x.1 ∉ bg)).map fun x => x.2.length).sum
noncomputable def WtOk (N : Nt) (S : GS) : Prop := ∀ x ∈ S.wt, ∃ rs, (x.1, rs) ∈ N.ps ∧ x.2.2 ∈ rs
theorem filter_sum (f : Pt → Bool) (l : List Pt) : ((l.filter f).map fun x => x.2.length).sum ≤ (l.map fun x => x.2.length).sum := by
  induction l with
  | nil => exact Nat.le_refl _
  | cons a l ih =>
    rw [List.filter_cons]
    split
    · simp only [List.map_cons, List.sum_cons]; omega
    · simp only [List.map_cons, List.sum_cons]; omega
theorem left_begin {N : Nt} (hn : (N.ps.map (·.1)).Nodup) {bg : List Str} {p : Str} {rs : List Rw} (h : (p, rs) ∈ N.ps) (hp : p ∉ bg) : leftN N (addN bg p) + rs.length = leftN N bg := by
  unfold leftN
  generalize N.ps = l at hn h
  induction l with
  | nil => simp at h
  | cons a l ih =>
    rw [List.map_cons, List.nodup_cons] at hn
    rcases List.mem_cons.mp h with z | z
    · have ha : a.1 = p := by rw [← z]
      have ha2 : a.2 = rs := by rw [← z]
      have hrest : l.filter (fun x => decide (x.1 ∉ addN bg p)) = l.filter (fun x => decide (x.1 ∉ bg)) := by
        refine List.filter_congr fun x hx => ?_
        have hxp : ¬ x.1 = p := fun e => hn.1 (by rw [ha, ← e]; exact List.mem_map_of_mem (f := (·.1)) hx)
        rw [Bool.eq_iff_iff, decide_eq_true_iff, decide_eq_true_iff, addN_mem]
        exact ⟨fun k y => k (.inl y), fun k y => y.elim k fun e => hxp e⟩
      rw [List.filter_cons, List.filter_cons, hrest]
      rw [if_neg (by rw [ha, decide_eq_true_iff, addN_mem]; exact fun k => k (.inr rfl)), if_pos (by rw [ha]; exact decide_eq_true hp)]
      simp only [List.map_cons, List.sum_cons]
      rw [ha2]
      omega
    · have hap : ¬ a.1 = p := fun e => hn.1 (by rw [e]; exact List.mem_map_of_mem (f := (·.1)) z)
      have ih' := ih hn.2 z
      rw [List.filter_cons, List.filter_cons]
      by_cases hb : a.1 ∈ bg
      · rw [if_neg (by rw [decide_eq_true_iff, addN_mem]; exact fun k => k (.inl hb)), if_neg (by rw [decide_eq_true_iff]; exact fun k => k hb)]
        exact ih'
      · rw [if_pos (by rw [decide_eq_true_iff, addN_mem]; exact fun k => k.elim hb hap), if_pos (by rw [decide_eq_true_iff]; exact hb)]
        simp only [List.map_cons, List.sum_cons]
        omega
theorem inV3 (k a b c : Str) : inV (.str k) [.str a, .str b, .str c] = decide (k = a ∨ k = b ∨ k = c) := by
  have := inV_strs k [a, b, c]
  simpa using this
noncomputable def spDo (CP CG : Addr) : Sp := fun vs H Q _ => ∃ (g wh r : Addr) (A : GA) (N : Nt) (ns : List Int) (S : GS) (p : Str) (j : Nat) (rw : Rw), vs = [.ref g, .str p, .ref wh, .ref r] ∧ GoAt CP CG H g A N ns S ∧ H wh = some (.tup [.str p, .int (j : Int)]) ∧ RowAt H r rw ∧ RowK N p rw ∧ isWork rw = true ∧ (∀ q, (∃ ps, rw = .bring q ps) ∨ (∃ wh, rw = .ask q wh) → ∃ rs, (q, rs) ∈ N.ps ∧ rowsN N q = rs ∧ rs.length ≤ 900 ∧ (q ∉ S.bg → S.wt.length + rs.length ≤ 1000)) ∧ S.bg.length ≤ 900 ∧ S.gv.length ≤ 990 ∧ S.tr.length ≤ 990 ∧ ∀ H', Fr g A H H' → GoAt CP CG H' g A N ns (rowS N ns S p j rw) → Q .non H'
theorem early_none {N : Nt} {gv : List (List Key × V)} {p : Str} {rw : Rw} (h : earlyR N gv p rw = none) : ∀ d ∈ rdR rw, (lk N gv p d.2).isSome = true := fun d hd => by
  unfold earlyR at h
  rw [Option.map_eq_none_iff, List.find?_eq_none] at h
  have := h d hd
  cases e : (lk N gv p d.2).isSome with
  | true => rfl
  | false => rw [e] at this; exact absurd rfl this
theorem ok_do_row (T : Tc K mg CP CG) : MCl P w K mg base 6 CG "do_row" ["self", "part", "where", "row"] (spDo CP CG) := by
  have C_is_off := ok_is_off (P := P) (w := w) (base := base) T
  have C_early_word := ok_early_word (P := P) (w := w) (base := base) T
  have C_enter := ok_enter (P := P) (w := w) (base := base) T
  have C_do_work := ok_do_work (P := P) (w := w) (base := base) T
  refine MCl.of T.m_do_row sc_Going_do_row (fun vs H Q E h => ?_) (fun _ _ _ _ _ _ us hl => len4 us hl (fun _ _ _ _ => rfl)) (fun fa cdv A outer s H vs Q E hr h => ?_)
  · obtain ⟨g, wh, r, A, N, ns, S, p, j, rw, rfl, _⟩ := h
    rfl
  · obtain ⟨g, wh, r, A, N, ns, S, p, j, rw, rfl, hG, hwh, hra, hK, hwk, htg, hbl, hgl, htl, q⟩ := h
    obtain ⟨dx, v, hg, hft⟩ := hG.ob
    obtain ⟨x1, rest, hrt⟩ := hra.kind
    have z0 : atI (V.str (kindS rw) :: x1 :: rest) 0 = some (.str (kindS rw)) := atI_nat (j := 0) rfl
    refine ⟨_, (pss_cons (ps_if (pt_val (pe_m C_is_off T.c_Going hr (pv 0) (pa_cons (pv 1) (pa_cons (pv 3) pa_nil))))
        (pss_one ps_retN) pss_nil)
      (pss_cons (ps_set (i := 4) sc_Going_do_row.nd rfl (Or.inl rfl) (pe_m C_early_word T.c_Going hr (pv 0) (pa_cons (pv 1) (pa_cons (pv 3) pa_nil))))
      (pss_one (ps_if (pt_cmp (pc_notN (pv 4)))
        (pss_one (ps_fld (pv 0) (pe_op op_catA (pe_op op_catA (pe_tup (pa_cons pe_str pa_nil)) (pv 2)) (pe_tup (pa_cons (pv 4) pa_nil))) rfl)) (pss_one (ps_if (pt_cmpR op_in_seq (pe_ix ix_tup (pv 3) pe_int (fun _ _ => rfl)) (pe_tup (pa_cons pe_str (pa_cons pe_str (pa_cons pe_str pa_nil)))) (by with_unfolding_all rfl))
          (pss_one (ps_expr (pe_m C_enter T.c_Going hr (pv 0) (pa_cons (pe_ix ix_tup (pv 3) pe_int (fun _ _ => rfl)) (pa_cons (pe_ix ix_tup (pv 3) pe_int (fun _ _ => rfl)) pa_nil))))) (pss_one (ps_expr (pe_m C_do_work T.c_Going hr (pv 0) (pa_cons (pv 1) (pa_cons (pv 2) (pa_cons (pv 3) pa_nil)))))))))))), ?_⟩
    refine ⟨_, rfl, g, dx, _, rfl, hg, lg_is_off, _, rfl, _, rfl, g, r, A, N, ns, S, p, rw, rfl, hG, hra, hK, fun H1 s1 => ?_⟩
    have hG1 := hG.same s1
    refine ⟨_, rfl, ?_⟩
    cases hoff : offR N S.gv p rw with
    | true =>
      refine iteT ?_
      refine q H1 (s1.fr g A) ?_
      rw [rowS_off hoff]
      exact hG1
    | false =>
      refine iteF ?_
      refine ⟨_, rfl, g, dx, _, rfl, s1 _ _ hg, lg_early_word, _, rfl, _, rfl, g, r, A, N, ns, S, p, rw, rfl, hG1, hra.mono s1.tups, hK, fun H2 s2 => ?_⟩
      have s02 := s1.trans s2
      have hG2 := hG.same s02
      have hg2 := s02 _ _ hg
      cases he : earlyR N S.gv p rw with
      | some wd =>
        refine ⟨_, rfl, _, rfl, iteNX (by intro z; cases z) ?_⟩
        refine ⟨(by show 1 ≤ sizeLine; decide), fun t3 gt3 => ?_⟩
        have s3 : Same H (upd H2 t3 (.tup [.str "early"])) := s02.new gt3
        have ht3 : upd H2 t3 (.tup [.str "early"]) t3 = some (.tup [.str "early"]) := upd_same
        generalize upd H2 t3 (.tup [.str "early"]) = H3 at s3 ht3 ⊢
        refine ⟨_, rfl, t3, wh, _, _, rfl, rfl, SqT.of ht3, SqT.of (s3 _ _ hwh), (by show 3 ≤ sizeLine; decide), (fun z => by cases z), (fun _ z => by cases z), fun _ _ t4 gt4 => ?_⟩
        have s4 : Same H (upd H3 t4 (.tup ([.str "early"] ++ [.str p, .int (j : Int)]))) := s3.new gt4
        have ht4 : upd H3 t4 (.tup ([.str "early"] ++ [.str p, .int (j : Int)])) t4 = some (.tup ([.str "early"] ++ [.str p, .int (j : Int)])) := upd_same
        generalize upd H3 t4 (.tup ([.str "early"] ++ [.str p, .int (j : Int)])) = H4 at s4 ht4 ⊢
        refine ⟨_, rfl, (by show 1 ≤ sizeLine; decide), fun t5 gt5 => ?_⟩
        have s5 : Same H (upd H4 t5 (.tup [optI (some wd)])) := s4.new gt5
        have ht5 : upd H4 t5 (.tup [optI (some wd)]) t5 = some (.tup [optI (some wd)]) := upd_same
        have ht45 := upd_keep (o := .tup [optI (some wd)]) ht4 gt5
        generalize upd H4 t5 (.tup [optI (some wd)]) = H5 at s5 ht5 ht45 ⊢
        refine ⟨t4, t5, _, _, rfl, rfl, SqT.of ht45, SqT.of ht5, (by show 4 ≤ sizeLine; decide), (fun z => by cases z), (fun _ z => by cases z), fun _ _ t6 gt6 => ?_⟩
        have s6 : Same H (upd H5 t6 (.tup (([.str "early"] ++ [.str p, .int (j : Int)]) ++ [optI (some wd)]))) := s5.new gt6
        have ht6 : upd H5 t6 (.tup (([.str "early"] ++ [.str p, .int (j : Int)]) ++ [optI (some wd)])) t6 = some (.tup (([.str "early"] ++ [.str p, .int (j : Int)]) ++ [optI (some wd)])) := upd_same
        generalize upd H5 t6 (.tup (([.str "early"] ++ [.str p, .int (j : Int)]) ++ [optI (some wd)])) = H6 at s6 ht6 ⊢
        have hG6 := hG.same s6
        refine ⟨_, rfl, g, CG, dx, _, rfl, s6 _ _ hg, T.c_Going, T.nG_fault, gF_len, ?_⟩
        rw [put_fault]
        obtain ⟨f7, hG7⟩ := hG6.setSelf (dx := dx) (tk := S.tk) (v := .ref t6) (ft := some ("early", p, j, wd)) ⟨t6, rfl, ht6⟩ hG.tkl
        refine q _ ((s6.fr g A).trans f7) ?_
        rw [rowS_early hoff he]
        exact hG7
      | none =>
        refine ⟨_, rfl, _, rfl, iteNS rfl ?_⟩
        have hrs := rowS_none (ns := ns) (j := j) hoff he
        refine ⟨_, rfl, r, _, _, _, rfl, rfl, SqT.of (s02 _ _ hrt), z0, (by show 3 ≤ sizeLine; decide), fun t3 gt3 => ?_⟩
        have s3 : Same H (upd H2 t3 (.tup [.str "bring", .str "do", .str "ask"])) := s02.new gt3
        have ht3 : upd H2 t3 (.tup [.str "bring", .str "do", .str "ask"]) t3 = some (.tup [.str "bring", .str "do", .str "ask"]) := upd_same
        generalize upd H2 t3 (.tup [.str "bring", .str "do", .str "ask"]) = H3 at s3 ht3 ⊢
        refine ⟨t3, _, rfl, .inr (SqT.of ht3), rfl, rfl, _, rfl, ?_⟩
        rw [if_neg (by decide), inV3]
        have hG3 := hG.same s3
        have hg3 := s3 _ _ hg
        have work : isWorkR rw → tailS N ns S p j rw = workS N ns S p j rw → spWork CP CG [.ref g, .str p, .ref wh, .ref r] H3 Q E0 := fun hw e =>
          ⟨g, wh, r, A, N, ns, S, p, j, rw, rfl, hG3, s3 _ _ hwh, hra.mono s3.tups, hK, hw, early_none he, hgl, htl, fun H4 f4 hG4 => q H4 ((s3.fr g A).trans f4) (by rw [hrs, e]; exact hG4)⟩
        cases rw with
        | bring b ps =>
          obtain ⟨t, hrt', _⟩ := hra
          obtain ⟨rs, m1, m2, m3, m4⟩ := htg b (.inl ⟨ps, rfl⟩)
          rw [decide_eq_true (show kindS (Rw.bring b ps) = "bring" ∨ _ from .inl rfl)]
          refine iteT ?_
          exact ⟨_, rfl, g, dx, _, rfl, hg3, lg_enter, _, rfl, r, _, _, _, rfl, rfl, SqT.of (s3 _ _ hrt'), rfl, _, rfl, r, _, _, _, rfl, rfl, SqT.of (s3 _ _ hrt'), rfl, g, A, N, ns, S, "bring", b, rs, rfl, hG3, m1, m2, m3, m4, hbl, fun H4 f4 hG4 => q H4 ((s3.fr g A).trans f4) (by rw [hrs]; exact hG4)⟩
        | ask b wn =>
          have hrt' : H r = some (.tup [.str "ask", .str b, optV wn]) := hra
          obtain ⟨rs, m1, m2, m3, m4⟩ := htg b (.inr ⟨wn, rfl⟩)
          rw [decide_eq_true (show kindS (Rw.ask b wn) = "bring" ∨ kindS (Rw.ask b wn) = "do" ∨ kindS (Rw.ask b wn) = "ask" from .inr (.inr rfl))]
          refine iteT ?_
          exact ⟨_, rfl, g, dx, _, rfl, hg3, lg_enter, _, rfl, r, _, _, _, rfl, rfl, SqT.of (s3 _ _ hrt'), rfl, _, rfl, r, _, _, _, rfl, rfl, SqT.of (s3 _ _ hrt'), rfl, g, A, N, ns, S, "ask", b, rs, rfl, hG3, m1, m2, m3, m4, hbl, fun H4 f4 hG4 => q H4 ((s3.fr g A).trans f4) (by rw [hrs]; exact hG4)⟩
        | part b => exact absurd hwk (by simp [isWork])
        | doo b => exact absurd hwk (by simp [isWork])
        | _ =>
          rw [decide_eq_false (by simp only [kindS]; decide +kernel)]
          refine iteF ?_
          exact ⟨_, rfl, g, dx, _, rfl, hg3, lg_do_work, _, rfl, _, rfl, _, rfl, work trivial rfl⟩
inductive Steps (N : Nt) (ns : List Int) : GS → GS → Prop where
  | refl (S : GS) : Steps N ns S S
  | step {S S' : GS} {W : List Wx} {p : Str} {j : Nat} {rw : Rw} : S.ft = none → S.wt = W ++ [(p, j, rw)] → Steps N ns (rowS N ns { S with wt := W } p j rw) S' → Steps N ns S S'
theorem Steps.trans {N : Nt} {ns : List Int} {S S1 S2 : GS} (h : Steps N ns S S1) (k : Steps N ns S1 S2) : Steps N ns S S2 := by
  induction h with
  | refl _ => exact k
  | step a b _ ih => exact .step a b (ih k)
theorem Steps.snoc {N : Nt} {ns : List Int} {S S1 : GS} {W : List Wx} {p : Str} {j : Nat} {rw : Rw} (h : Steps N ns S S1) (a : S1.ft = none) (b : S1.wt = W ++ [(p, j, rw)]) : Steps N ns S (rowS N ns { S1 with wt := W } p j rw) := h.trans (.step a b (.refl _))
noncomputable def muN (N : Nt) (S : GS) : Nat := S.wt.length + leftN N S.bg
structure GoOk (N : Nt) (S : GS) : Prop where
  wo : WtOk N S
  gl : S.gv.length + muN N S ≤ 990
  tl : S.tr.length + muN N S ≤ 990
  bl : S.bg.length ≤ N.ps.length
  bn : S.bg.Nodup
  bm : ∀ p ∈ S.bg, p ∈ N.ps.map (·.1)
theorem putK_len {κ : Type} [DecidableEq κ] (kvs : List (κ × V)) (k : κ) (v : V) : (putK kvs k v).length ≤ kvs.length + 1 := by
  unfold putK
  split
  · rw [List.length_map]; omega
  · rw [List.length_append]; exact Nat.le_refl _
theorem begin_ok {N : Nt} {S : GS} {p : Str} {rs : List Rw} (hN : NtOk N) (h : GoOk N S) (hm : (p, rs) ∈ N.ps) (hp : p ∉ S.bg) : GoOk N (beginS N S p) ∧ muN N (beginS N S p) = muN N S := by
  have hrs := rowsN_eq hN.nd hm
  have hl := left_begin hN.nd hm hp
  have hmu : muN N (beginS N S p) = muN N S := by
    show (S.wt ++ (idxRows p (rowsN N p)).reverse).length + leftN N (addN S.bg p) = S.wt.length + leftN N S.bg
    rw [List.length_append, List.length_reverse, idx_len, hrs]
    omega
  have hadd : addN S.bg p = S.bg ++ [p] := by unfold addN; rw [if_neg hp]
  have hbn : (S.bg ++ [p]).Nodup := List.nodup_append.mpr ⟨h.bn, by simp, fun a ha b hb => by rw [List.mem_singleton.mp hb]; exact fun z => hp (z ▸ ha)⟩
  have hbm : ∀ q ∈ S.bg ++ [p], q ∈ N.ps.map (·.1) := fun q hq => by
    rcases List.mem_append.mp hq with z | z
    · exact h.bm q z
    · rw [List.mem_singleton.mp z]; exact List.mem_map_of_mem (f := (·.1)) hm
  refine ⟨⟨fun x hx => ?_, by rw [hmu]; exact h.gl, by rw [hmu]; exact h.tl, ?_, ?_, ?_⟩, hmu⟩
  · have hx' : x ∈ S.wt ++ (idxRows p (rowsN N p)).reverse := hx
    rcases List.mem_append.mp hx' with z | z
    · exact h.wo x z
    · have := List.mem_reverse.mp z
      unfold idxRows at this
      rw [hrs] at this
      obtain ⟨i, hi, e⟩ := List.mem_mapIdx.mp this
      refine ⟨rs, by rw [← e]; exact hm, ?_⟩
      rw [← e]
      exact List.getElem_mem hi
  · show (addN S.bg p).length ≤ _
    rw [hadd]
    have := nodup_lenG (S.bg ++ [p]) (N.ps.map (·.1)) hbn hbm
    rw [List.length_map] at this
    exact this
  · show (addN S.bg p).Nodup
    rw [hadd]; exact hbn
  · show ∀ q ∈ addN S.bg p, _
    rw [hadd]; exact hbm
theorem row_ok {N : Nt} {ns : List Int} {S : GS} {W : List Wx} {p : Str} {j : Nat} {rw : Rw} (hN : NtOk N) (h : GoOk N S) (hw : S.wt = W ++ [(p, j, rw)]) : GoOk N (rowS N ns { S with wt := W } p j rw) ∧ muN N (rowS N ns { S with wt := W } p j rw) < muN N S := by
  obtain ⟨rs, hm, hmr⟩ := h.wo (p, j, rw) (by rw [hw]; simp)
  have hmu0 : muN N { S with wt := W } + 1 = muN N S := by
    show W.length + leftN N S.bg + 1 = S.wt.length + leftN N S.bg
    rw [hw, List.length_append]
    simp; omega
  have h0 : GoOk N { S with wt := W } := ⟨fun x hx => h.wo x (by rw [hw]; exact List.mem_append_left _ hx), by have := h.gl; show S.gv.length + muN N { S with wt := W } ≤ 990; omega, by have := h.tl; show S.tr.length + muN N { S with wt := W } ≤ 990; omega, h.bl, h.bn, h.bm⟩
  have hg1 : S.gv.length + muN N { S with wt := W } + 1 ≤ 990 := by have := h.gl; omega
  have ht1 : S.tr.length + muN N { S with wt := W } + 1 ≤ 990 := by have := h.tl; omega
  have keep : GoOk N { S with wt := W } ∧ muN N { S with wt := W } < muN N S := ⟨h0, by omega⟩
  have ent : ∀ b, b ∈ N.ps.map (·.1) → GoOk N (enterS N { S with wt := W } b) ∧ muN N (enterS N { S with wt := W } b) < muN N S := fun b hb => by
    unfold enterS
    by_cases hin : b ∈ S.bg
    · rw [if_pos hin]; exact keep
    · rw [if_neg hin]
      obtain ⟨⟨b', rs'⟩, h1, h2⟩ := List.mem_map.mp hb
      have h2' : b' = b := h2
      subst h2'
      obtain ⟨k1, k2⟩ := begin_ok hN h0 h1 hin
      exact ⟨k1, by omega⟩
  cases hoff : offR N { S with wt := W }.gv p rw with
  | true => rw [rowS_off hoff]; exact keep
  | false =>
    cases he : earlyR N { S with wt := W }.gv p rw with
    | some wd =>
      rw [rowS_early hoff he]
      exact ⟨⟨h0.wo, h0.gl, h0.tl, h0.bl, h0.bn, h0.bm⟩, keep.2⟩
    | none =>
      rw [rowS_none hoff he]
      cases rw with
      | bring b ps => exact ent b (hN.tg p rs hm _ hmr b (.inl ⟨ps, rfl⟩))
      | ask b wn => exact ent b (hN.tg p rs hm _ hmr b (.inr ⟨wn, rfl⟩))
      | set o ts =>
        cases e : N.km (p, o) with
        | none => simp only [tailS, workS, e]; exact keep
        | some k =>
          simp only [tailS, workS, e]
          refine ⟨⟨h0.wo, ?_, h0.tl, h0.bl, h0.bn, h0.bm⟩, keep.2⟩
          have := putK_len S.gv (kN k) (.int (sumV N S.gv p ts))
          show (putK S.gv (kN k) (.int (sumV N S.gv p ts))).length + muN N { S with wt := W } ≤ 990
          omega
      | take o =>
        cases e : N.km (p, o) with
        | none => simp only [tailS, workS, e]; exact keep
        | some k =>
          simp only [tailS, workS, e]
          refine ⟨⟨h0.wo, ?_, ?_, h0.bl, h0.bn, h0.bm⟩, keep.2⟩
          · have := putK_len S.gv (kN k) (.int (ns.getD S.tk 0))
            show (putK S.gv (kN k) (.int (ns.getD S.tk 0))).length + muN N { S with wt := W } ≤ 990
            omega
          · show (S.tr ++ [_]).length + muN N { S with wt := W } ≤ 990
            rw [List.length_append]; simp; omega
      | say ts wn =>
        refine ⟨⟨h0.wo, h0.gl, ?_, h0.bl, h0.bn, h0.bm⟩, keep.2⟩
        show (S.tr ++ [_]).length + muN N { S with wt := W } ≤ 990
        rw [List.length_append]; simp; omega
      | need ts =>
        simp only [tailS, workS]
        split
        · exact ⟨⟨h0.wo, h0.gl, h0.tl, h0.bl, h0.bn, h0.bm⟩, keep.2⟩
        · exact keep
      | give o g => exact keep
      | part b => exact keep
      | doo b => exact keep
noncomputable def muH (N : Nt) (A : GA) (H : Hp) : Nat := (match H A.wt with | some (.lst vs) => vs.length | _ => 0) + (match H A.b with | some (.dK kvs) => ((N.ps.filter fun (x : Pt) => !(valV kvs (Sum.inr x.1)).isSome).map fun x => x.2.length).sum | _ => 0)
theorem muH_eq {CP CG : Addr} {H : Hp} {g : Addr} {A : GA} {N : Nt} {ns : List Int} {S : GS} (h : GoAt CP CG H g A N ns S) : muH N A H = muN N S := by
  obtain ⟨vs, h1, h2⟩ := h.wt
  have hf : N.ps.filter (fun (x : Pt) => !(valV (setD S.bg) (Sum.inr x.1)).isSome) = N.ps.filter (fun x => decide (x.1 ∉ S.bg)) := List.filter_congr fun x _ => by
    rw [setD_some]
    by_cases hx : x.1 ∈ S.bg
    · simp [hx]
    · simp [hx]
  unfold muH muN leftN
  rw [h1, h.bg]
  show vs.length + ((N.ps.filter (fun (x : Pt) => !(valV (setD S.bg) (Sum.inr x.1)).isSome)).map fun x => x.2.length).sum = _
  rw [hf, Paired.length h2]
theorem paired_last {α β : Type} {F : α → β → Prop} : ∀ {us : List α} {y : α} {ws : List β}, Paired F (us ++ [y]) ws → ∃ W x, ws = W ++ [x] ∧ Paired F us W ∧ F y x
  | [], y, _, .cons h .nil => ⟨[], _, rfl, .nil, h⟩
  | a :: us, y, _, .cons h t => by
    obtain ⟨W, x, e, h1, h2⟩ := paired_last (us := us) t
    exact ⟨_ :: W, x, by rw [e]; rfl, .cons h h1, h2⟩
theorem row_le {N : Nt} (hN : NtOk N) {p : Str} {rs : List Rw} (h : (p, rs) ∈ N.ps) : rs.length ≤ 900 := by
  have := hN.tot
  have : ∀ l : List Pt, (p, rs) ∈ l → rs.length ≤ (l.map fun x => x.2.length).sum := by
    intro l hl
    induction l with
    | nil => simp at hl
    | cons a l ih =>
      rw [List.map_cons, List.sum_cons]
      rcases List.mem_cons.mp hl with z | z
      · rw [← z]; simp
      · have := ih z; omega
  have := this N.ps h
  omega
noncomputable def spGoOn (CP CG : Addr) : Sp := fun vs H Q _ => ∃ (g : Addr) (A : GA) (N : Nt) (ns : List Int) (S : GS), vs = [.ref g] ∧ GoAt CP CG H g A N ns S ∧ NtOk N ∧ GoOk N S ∧ ∀ (S' : GS) (H' : Hp), Fr g A H H' → GoAt CP CG H' g A N ns S' → Steps N ns S S' → (S'.wt = [] ∨ S'.ft ≠ none) → Q .non H'
theorem isE_len {α : Type} {l : List α} (h : l ≠ []) : (!l.isEmpty) = true := by cases l with | nil => exact absurd rfl h | cons _ _ => rfl
theorem ok_go_on (T : Tc K mg CP CG) : MCl P w K mg base 7 CG "go_on" ["self"] (spGoOn CP CG) := by
  have C_do_row := ok_do_row (P := P) (w := w) (base := base) T
  refine MCl.of T.m_go_on sc_Going_go_on (fun vs H Q E h => ?_) (fun _ _ _ _ _ _ us hl => len1 us hl (fun _ => rfl)) (fun fa cdv A outer s H vs Q E hr h => ?_)
  · obtain ⟨g, A, N, ns, S, rfl, _⟩ := h
    rfl
  · obtain ⟨g, A, N, ns, S, rfl, hG, hN, hO, q⟩ := h
    refine ⟨_, (pss_one (ps_while PassesOwn.never (PW.pt (pw_and (pt_truth (pe_fld (pv 0) rfl) (fun _ => rfl)) (pw_and1 (pt_cmp (pc_isN (pe_fld (pv 0) rfl))))))
        (pss_cons (ps_set (i := 1) sc_Going_go_on.nd rfl (Or.inl rfl) (pe_bm0 PySem.F.plainAttrs_list PySem.F.slot_list_pop PySem.F.type_list_pop mt_pop (pe_fld (pv 0) rfl)))
        (pss_one (ps_expr (pe_m C_do_row T.c_Going hr (pv 0) (pa_cons (pe_ix ix_tup (pv 1) pe_int (fun _ _ => rfl)) (pa_cons (pe_ix ix_tup (pv 1) pe_int (fun _ _ => rfl)) (pa_cons (pe_ix ix_tup (pv 1) pe_int (fun _ _ => rfl)) pa_nil))))))))), ?_⟩
    refine while_by (fun σ H2 => ∃ (v1 : Option V) (S2 : GS), σ = [some (.ref g), v1] ∧ Fr g A H H2 ∧ GoAt CP CG H2 g A N ns S2 ∧ GoOk N S2 ∧ Steps N ns S S2) (fun _ H2 => muH N A H2) ⟨none, S, rfl, Fr.refl g A H, hG, hO, .refl S⟩ ?_ ?_
    · rintro σ H2 ⟨v1, S2, rfl, f2, hG2, hO2, hst⟩
      obtain ⟨dx, v, hg, hft⟩ := hG2.ob
      obtain ⟨vs, hvs, hvp⟩ := hG2.wt
      refine ⟨_, rfl, g, CG, dx, _, _, rfl, hg, T.c_Going, T.nG_waiting, lg_waiting, _, .inl ⟨_, SqL.of hvs, rfl⟩, ?_⟩
      cases hL : vs.getLast? with
      | none =>
        have hve : vs = [] := List.getLast?_eq_none_iff.mp hL
        subst hve
        have hw0 : S2.wt = [] := List.length_eq_zero_iff.mp (by have := Paired.length hvp; simpa using this.symm)
        refine iteF ?_
        show if false = true then _ else _
        refine iteF ?_
        exact q S2 H2 f2 hG2 hst (.inl hw0)
      | some y =>
        obtain ⟨us, hus⟩ := List.getLast?_eq_some_iff.mp hL
        have hne : vs ≠ [] := by rw [hus]; simp
        rw [isE_len hne]
        refine iteT ?_
        refine ⟨_, rfl, g, CG, dx, _, _, rfl, hg, T.c_Going, T.nG_fault, lg_fault, _, rfl, ?_⟩
        cases hf : S2.ft with
        | some ff =>
          rw [hf] at hft
          obtain ⟨tf, ev, _⟩ := hft
          subst ev
          refine iteDN (by intro z; cases z) ?_
          exact q S2 H2 f2 hG2 hst (.inr (by rw [hf]; intro z; cases z))
        | none =>
          rw [hf] at hft
          have ev : v = .non := hft
          subst ev
          refine iteDP rfl ?_
          have hlast : vs[vs.length - 1]? = some y := by rw [← List.getLast?_eq_getElem?, hL]
          have hdl : vs.dropLast = us := by rw [hus, List.dropLast_concat]
          obtain ⟨W, ⟨p, j, rw⟩, hW, hWp, hy⟩ : ∃ W x, S2.wt = W ++ [x] ∧ Paired (WtAt H2) us W ∧ WtAt H2 y x := paired_last (by rw [← hus]; exact hvp)
          obtain ⟨t, wh, r, ey, ht, hwh, hra⟩ := hy
          subst ey
          refine ⟨_, rfl, g, CG, dx, _, _, rfl, hg, T.c_Going, T.nG_waiting, lg_waiting, .inl ⟨rfl, _, SqL.of hvs⟩, A.wt, _, _, rfl, rfl, hvs, hlast, ?_⟩
          rw [hdl]
          obtain ⟨f3, hG3⟩ := hG2.setWait hWp
          have T3 := hG2.tups f3
          have hmu := muH_eq hG2
          generalize upd H2 A.wt (.lst us) = H3 at f3 hG3 T3 ⊢
          obtain ⟨dx3, v3, hg3, _⟩ := hG3.ob
          obtain ⟨rs, hm, hmr⟩ := hO2.wo (p, j, rw) (by rw [hW]; simp)
          have hrk := row_ok (ns := ns) hN hO2 hW
          have hlt : W.length + 1 = S2.wt.length := by rw [hW, List.length_append]; rfl
          have hgl := hO2.gl
          have htl := hO2.tl
          have hbl := hO2.bl
          have hNl := hN.len
          unfold muN at hgl htl
          refine ⟨_, rfl, g, dx3, _, rfl, hg3, lg_do_row, _, rfl, t, _, _, _, rfl, rfl, SqT.of (T3 _ _ ht), rfl, _, rfl, t, _, _, _, rfl, rfl, SqT.of (T3 _ _ ht), rfl, _, rfl, t, _, _, _, rfl, rfl, SqT.of (T3 _ _ ht), rfl, ?_⟩
          refine ⟨g, wh, r, A, N, ns, _, p, j, rw, rfl, hG3, T3 _ _ hwh, hra.mono T3, hN.rk p rs hm rw hmr, hN.kd p rs hm rw hmr, fun b hb => ?_, by show S2.bg.length ≤ 900; omega, by show S2.gv.length ≤ 990; omega, by show S2.tr.length ≤ 990; omega, fun H4 f4 hG4 => ?_⟩
          · obtain ⟨⟨b', rs'⟩, h1, h2⟩ := List.mem_map.mp (hN.tg p rs hm rw hmr b hb)
            have h2' : b' = b := h2
            subst h2'
            have hr9 : rs'.length ≤ 900 ∧ (b' ∉ S2.bg → W.length + rs'.length ≤ 1000) := by
              refine ⟨?_, fun hb => ?_⟩
              · exact row_le hN h1
              · have := left_begin hN.nd h1 hb
                omega
            exact ⟨rs', h1, rowsN_eq hN.nd h1, hr9.1, hr9.2⟩
          · refine ⟨⟨_, _, rfl, (f2.trans f3).trans f4, hG4, hrk.1, hst.snoc hf hW⟩, ?_⟩
            rw [muH_eq hG4, hmu]
            exact hrk.2
    · rintro σ H2 Q1 Q2 hQ ⟨v, e, a, C, dx, fs, v', ex, h1, c1, n1, l1, b, hb, hq⟩
      refine ⟨v, e, a, C, dx, fs, v', ex, h1, c1, n1, l1, b, hb, ?_⟩
      cases b with
      | false => exact iteF (hQ _ _ (by simpa using hq))
      | true =>
        have hq' := hq
        rw [if_pos rfl] at hq'
        obtain ⟨v, e, a, C, dx, fs, v', ex, h1, c1, n1, l1, b, hb, hq2⟩ := hq'
        exact iteT ⟨v, e, a, C, dx, fs, v', ex, h1, c1, n1, l1, b, hb, hQ _ _ hq2⟩
noncomputable def spGo (CP CG : Addr) : Sp := fun vs H Q _ => ∃ (w n : Addr) (N : Nt) (ns : List Int) (root : Str), vs = [.ref w, .str root, .ref n] ∧ WalkAt CP H w N ∧ H n = some (.tup (ns.map V.int)) ∧ NtOk N ∧ root ∈ N.ps.map (·.1) ∧
  ∀ (p t : Addr) (vs : List V) (v : V) (S' : GS) (H' : Hp), Same H H' → H' p = some (.tup [.ref t, v]) → H' t = some (.tup vs) → Paired (DdAt H') vs S'.tr → FtAt H' v S'.ft → Steps N ns (beginS N s0 root) S' → (S'.wt = [] ∨ S'.ft ≠ none) → Q (.ref p) H'
theorem leftN_nil {N : Nt} (hN : NtOk N) : leftN N [] ≤ 900 := Nat.le_trans (filter_sum _ _) hN.tot
theorem ok_go (T : Tc K mg CP CG) : MCl P w K mg base 8 CP "go" ["self", "root", "numbers"] (spGo CP CG) := by
  have C_Going := ok_GoInit (P := P) (w := w) (base := base) T
  have C_load := ok_load (P := P) (w := w) (base := base) T
  have C_loads_of := ok_loads_of (P := P) (w := w) (base := base) T
  have C_ahead_of := ok_ahead_of (P := P) (w := w) (base := base) T
  have C_begin := ok_begin (P := P) (w := w) (base := base) T
  have C_go_on := ok_go_on (P := P) (w := w) (base := base) T
  refine MCl.of T.m_go sc_Walk_go (fun vs H Q E h => ?_) (fun _ _ _ _ _ _ us hl => len3 us hl (fun _ _ _ => rfl)) (fun fa cdv A outer s H vs Q E hr h => ?_)
  · obtain ⟨w, n, N, ns, root, rfl, _⟩ := h
    rfl
  · obtain ⟨w, n, N, ns, root, rfl, hw, hn, hN, hroot, q⟩ := h
    obtain ⟨dw, rd, md, kvr, kvm, h1, h2, h3, h4, h5⟩ := hw.ex
    obtain ⟨⟨root', rs⟩, hm, e⟩ := List.mem_map.mp hroot
    have e' : root' = root := e
    subst e'
    refine ⟨_, (pss_cons (ps_set (i := 3) sc_Walk_go.nd rfl (Or.inl rfl) (pe_mk C_Going hr (by rfl) (pa_cons (pv 0) (pa_cons (pv 2) pa_nil))))
      (pss_cons (ps_expr (pe_m C_load T.c_Going hr (pv 3) (pa_cons (pe_m C_loads_of T.c_PartsWalk hr (pv 0) (pa_cons (pv 1) pa_nil)) pa_nil)))
      (pss_cons (ps_expr (pe_m C_load T.c_Going hr (pv 3) (pa_cons (pe_m C_ahead_of T.c_PartsWalk hr (pv 0) (pa_cons (pv 1) pa_nil)) pa_nil)))
      (pss_cons (ps_expr (pe_m C_begin T.c_Going hr (pv 3) (pa_cons (pv 1) pa_nil)))
      (pss_cons (ps_expr (pe_m0 C_go_on T.c_Going hr (pv 3)))
      (pss_one (ps_ret (pe_tup (pa_cons (pe_callTy call_tuple_of (by rfl) T.n_tuple boot_tuple (pa_cons (pe_fld (pv 3) rfl) pa_nil)) (pa_cons (pe_fld (pv 3) rfl) pa_nil)))))))))), ?_⟩
    refine ⟨_, rfl, _, rfl, fun g dx ng ndx ne => ?_⟩
    have sA : Same H (upd (upd H dx (.own g)) g (.ins CG dx [])) := fun b o e => by
      rw [upd_ne (ne_of_none e ng), upd_ne (ne_of_none e ndx)]
      exact e
    have hgA : upd (upd H dx (.own g)) g (.ins CG dx []) g = some (.ins CG dx []) := upd_same
    have hdA : upd (upd H dx (.own g)) g (.ins CG dx []) dx = some (.own g) := by rw [upd_ne ne, upd_same]
    generalize upd (upd H dx (.own g)) g (.ins CG dx []) = HA at sA hgA hdA ⊢
    have hwA : WalkAt CP HA w N := ⟨dw, rd, md, kvr, kvm, sA _ _ h1, sA _ _ h2, sA _ _ h3, fun n rs hm => by
      obtain ⟨u, ws, e1, e2, e3⟩ := h4 n rs hm
      exact ⟨u, ws, e1, sA _ _ e2, e3.mono sA.tups⟩, fun p x k hk => by
      obtain ⟨t, e1, e2⟩ := h5 p x k hk
      exact ⟨t, e1, sA _ _ e2⟩⟩
    refine ⟨g, w, n, dx, N, ns, rfl, hgA, hwA, ne_of_none h1 ng, sA _ _ hn, fun A H1 kA fA hG1 => ⟨rfl, ?_⟩⟩
    obtain ⟨fb, fl, fv, fw, ft⟩ := fA
    have s1 : Same H H1 := fun b o e => kA b o (sA b o e) (ne_of_none e ng)
    have nb := sA.free fb
    have nl := sA.free fl
    have nv := sA.free fv
    have nw := sA.free fw
    have nt' := sA.free ft
    have fr : ∀ {H' : Hp}, Fr g A H1 H' → Same H H' := fun {H'} f b o e => f b o (s1 b o e) (ne_of_none e ng) (ne_of_none e nb) (ne_of_none e nl) (ne_of_none e nv) (ne_of_none e nw) (ne_of_none e nt')
    obtain ⟨dx1, v1, hg1, _⟩ := hG1.ob
    have hw1 := s1 _ _ h1
    refine ⟨_, rfl, g, dx1, _, rfl, hg1, lg_load, _, rfl, w, dw, _, rfl, hw1, lw_loads_of, _, rfl, w, root', N, rfl, walk_same hw s1, fun t2 H2 s2 ht2 => ?_⟩
    refine ⟨g, t2, rfl, ht2, ?_⟩
    have hg2 := s2 _ _ hg1
    refine ⟨_, rfl, g, dx1, _, rfl, hg2, lg_load, _, rfl, w, dw, _, rfl, s2 _ _ hw1, lw_ahead_of, _, rfl, w, root', N, rfl, walk_same hw (s1.trans s2), fun t3 H3 s3 ht3 => ?_⟩
    refine ⟨g, t3, rfl, ht3, ?_⟩
    have s13 := s2.trans s3
    have hG3 := hG1.same s13
    have hg3 := s13 _ _ hg1
    refine ⟨_, rfl, g, dx1, _, rfl, hg3, lg_begin, _, rfl, g, A, N, ns, s0, root', rs, rfl, hG3, hm, rowsN_eq hN.nd hm, row_le hN hm, (by have := row_le hN hm; show 0 + rs.length ≤ 1000; omega), (by show 0 ≤ 900; decide), fun H4 f4 hG4 => ?_⟩
    obtain ⟨dx4, v4, hg4, _⟩ := hG4.ob
    have hl := left_begin (bg := []) hN.nd hm (by simp)
    have hO0 : GoOk N s0 := ⟨fun x hx => by simp [s0] at hx, by have := leftN_nil hN; show 0 + (0 + leftN N []) ≤ 990; omega, by have := leftN_nil hN; show 0 + (0 + leftN N []) ≤ 990; omega, Nat.zero_le _, List.nodup_nil, fun p hp => by simp [s0] at hp⟩
    obtain ⟨hO4, _⟩ := begin_ok hN hO0 hm (by simp [s0])
    refine ⟨_, rfl, g, dx4, _, rfl, hg4, lg_go_on, g, A, N, ns, _, rfl, hG4, hN, hO4, fun S' H5 f5 hG5 hst hend => ?_⟩
    obtain ⟨dx5, v5, hg5, hft5⟩ := hG5.ob
    obtain ⟨us, hus, hup⟩ := hG5.tr
    have f15 : Fr g A H1 H5 := ((s13.fr g A).trans f4).trans f5
    have s5 := fr f15
    refine ⟨_, rfl, g, CG, dx5, _, _, rfl, hg5, T.c_Going, T.nG_trace, lg_trace, A.tr, _, rfl, .inl ⟨SqL.of hus, fun t gt => ?_⟩⟩
    have s6 : Same H5 (upd H5 t (.tup us)) := (Same.refl H5).new gt
    have ht6 : upd H5 t (.tup us) t = some (.tup us) := upd_same
    generalize upd H5 t (.tup us) = H6 at s6 ht6 ⊢
    refine ⟨_, rfl, g, CG, dx5, _, _, rfl, s6 _ _ hg5, T.c_Going, T.nG_fault, lg_fault, (by show 2 ≤ sizeLine; decide), fun p gp => ?_⟩
    have s7 : Same H5 (upd H6 p (.tup [.ref t, v5])) := s6.new gp
    exact q p t us v5 S' _ (s5.trans s7) upd_same (upd_keep ht6 gp) (Paired.mapP hup fun _ _ z => z.mono s7.tups) (hft5.mono s7.tups) hst hend
structure NtOf (ps : List Pt) (N : Nt) : Prop where
  eps : N.ps = ps
  mkd : ∀ x k, N.km x = some k → Mk (mlsOf (plsOf ps)) (llsOf (plsOf ps)) x k
theorem pw_fs (rd md : Addr) : putF "makers" (.ref md) (putF "rows" (.ref rd) []) = wF rd md := by kernel_rfl
theorem mk_dom {pls : List Pl} {x : Kk} {k : Str × Nat} (h : Mk (mlsOf pls) (llsOf pls) x k) : x ∈ (mlsOf pls).map (·.1) ∨ x ∈ (llsOf pls).map (·.1) := by
  cases h with
  | base h => exact .inl (List.mem_map_of_mem (f := (·.1)) h)
  | step h _ => exact .inr (List.mem_map_of_mem (f := (·.1)) h)
noncomputable def spPwInit (CP : Addr) : Sp := fun vs H Q _ => ∃ (w a dx : Addr) (ps : List Pt) (N : Nt), vs = [.ref w, .ref a] ∧ H w = some (.ins CP dx []) ∧ PartsF H a ps ∧ PsFit ps ∧ NetOk (plsOf ps) ∧ NtOf ps N ∧ ∀ H', KpG w H H' → WalkAt CP H' w N → Q .non H'
theorem ok_PwInit (T : Tc K mg CP CG) : ICl P w K mg base 5 "PartsWalk" CP ["self", "parts"] (spPwInit CP) := by
  have C_makers := ok_makers (P := P) (w := w) (base := base) T.toTxt
  refine ICl.of T.i_PartsWalk T.g_PartsWalk sc_PartsWalk___init__ (fun vs H Q E h => ?_) (fun _ _ _ _ _ _ us hl => len2 us hl (fun _ _ => rfl)) (fun fa cdv A outer s H vs Q E hr h => ?_)
  · obtain ⟨w, a, dx, ps, N, rfl, _⟩ := h
    rfl
  · obtain ⟨w, a, dx, ps, N, rfl, hw, hpf, hfit, hnet, hNt, q⟩ := h
    obtain ⟨o, vs, ha, ho, hps⟩ := id hpf
    have hhi := hfit.hi
    refine ⟨_, (pss_cons (ps_fld (pv 0) (pe_callTy (call_dictT rfl) (by rfl) T.n_dict boot_dict (pa_cons (pv 1) pa_nil)) rfl)
      (pss_one (ps_fld (pv 0) (pe_fn C_makers hr (by rfl) (pa_cons (pv 1) pa_nil)) rfl))), ?_⟩
    obtain ⟨qs, g1, g2, g3⟩ := parts_pairs (K := K) hps
    have hql : qs.length = ps.length := by
      have := congrArg List.length g2
      simpa using this
    refine ⟨_, rfl, a, o, vs, qs, rfl, ha, ho, g1, (by omega), fun rd grd => ?_⟩
    have nrd : w ≠ rd := ne_of_none hw grd
    refine ⟨_, rfl, w, CP, dx, _, rfl, by rw [upd_ne nrd]; exact hw, T.c_PartsWalk, T.nP_rows, (by show 0 < 1000; decide), ?_⟩
    have k1 : KpG w H (upd (upd H rd (.dK (foldP qs []))) w (.ins CP dx (putF "rows" (.ref rd) []))) := ((KpG.refl w H).new grd).self
    have hw1 : upd (upd H rd (.dK (foldP qs []))) w (.ins CP dx (putF "rows" (.ref rd) [])) w = some (.ins CP dx (putF "rows" (.ref rd) [])) := upd_same
    have hr1 : upd (upd H rd (.dK (foldP qs []))) w (.ins CP dx (putF "rows" (.ref rd) [])) rd = some (.dK (foldP qs [])) := by rw [upd_ne nrd.symm, upd_same]
    generalize upd (upd H rd (.dK (foldP qs []))) w (.ins CP dx (putF "rows" (.ref rd) [])) = H1 at k1 hw1 hr1 ⊢
    have T1 : Tups H H1 := fun b xs e => k1 b _ e (ne_of e hw (by intro z; cases z))
    have ha1 : H1 a = some (.frz o (.tup vs)) := k1 _ _ ha (ne_of ha hw (by intro z; cases z))
    have hpf1 : PartsF H1 a ps := ⟨o, vs, ha1, ho, Paired.mapP hps fun _ _ z => z.mono T1⟩
    refine ⟨_, rfl, a, ps, rfl, hpf1, hfit, hnet, fun md kvs H2 s2 hmd hFI hall => ?_⟩
    have hw2 := s2 _ _ hw1
    refine ⟨_, rfl, w, CP, dx, _, rfl, hw2, T.c_PartsWalk, T.nP_makers, lt1000 (putF_le _ _ _ 0 (Nat.le_refl _)) (by decide), ?_⟩
    rw [pw_fs]
    have nmd : md ≠ w := ne_of hmd hw2 (by intro z; cases z)
    have T3 : Tups H (upd H2 w (.ins CP dx (wF rd md))) := (T1.trans s2.tups).trans fun b xs e => by rw [upd_ne (ne_of e hw2 (by intro z; cases z))]; exact e
    refine q _ (fun b u e hb => by rw [upd_ne hb]; exact s2 _ _ (k1 b u e hb)) ⟨dx, rd, md, foldP qs [], kvs, upd_same, by rw [upd_ne nrd.symm]; exact s2 _ _ hr1, by rw [upd_ne nmd]; exact hmd, fun n rs hm => ?_, fun p x k hk => ?_⟩
    · rw [hNt.eps] at hm
      obtain ⟨u, ws, k1', k2, k3⟩ := g3 n rs hm
      refine ⟨u, ws, foldP_get qs [] n (.ref u) (by rw [g2]; exact hfit.nd) (.inl k1'), T3 _ _ k2, k3.mono T3⟩
    · have hMk := hNt.mkd (p, x) k hk
      have hsome : (valV kvs (key2 (p, x))).isSome = true := by
        rcases mk_dom hMk with z | z
        · exact hFI.has _ z
        · exact hall _ z
      cases ev : valV kvs (key2 (p, x)) with
      | none => rw [ev] at hsome; cases hsome
      | some v =>
        obtain ⟨t, k', e1, e2, e3⟩ := hFI.val _ _ ev
        have ek := hnet.uniq e3 hMk
        subst ek
        subst e1
        refine ⟨t, ev, ?_⟩
        rw [upd_ne (ne_of e2 hw2 (by intro z; cases z))]
        exact e2
noncomputable def spRun (CP CG : Addr) : Sp := fun vs H Q _ => ∃ (a n : Addr) (ps : List Pt) (N : Nt) (ns : List Int) (root : Str), vs = [.ref a, .str root, .ref n] ∧ PartsF H a ps ∧ PsFit ps ∧ NetOk (plsOf ps) ∧ NtOf ps N ∧ NtOk N ∧ H n = some (.tup (ns.map V.int)) ∧ root ∈ N.ps.map (·.1) ∧
  ∀ (p t : Addr) (vs : List V) (v : V) (S' : GS) (H' : Hp), Same H H' → H' p = some (.tup [.ref t, v]) → H' t = some (.tup vs) → Paired (DdAt H') vs S'.tr → FtAt H' v S'.ft → Steps N ns (beginS N s0 root) S' → (S'.wt = [] ∨ S'.ft ≠ none) → Q (.ref p) H'
theorem ok_run (T : Tc K mg CP CG) : L2.Cl P w K mg base 10 "run" ["parts", "root", "numbers"] (spRun CP CG) := by
  have C_PartsWalk := ok_PwInit (P := P) (w := w) (base := base) T
  have C_go := ok_go (P := P) (w := w) (base := base) T
  refine Cl.of T.d_run sc_run (fun vs H Q E h => ?_) (fun _ _ _ _ _ _ us hl => len3 us hl (fun _ _ _ => rfl)) (fun fa cdv A outer s H vs Q E hr h => ?_)
  · obtain ⟨a, n, ps, N, ns, root, rfl, _⟩ := h
    rfl
  · obtain ⟨a, n, ps, N, ns, root, rfl, hpf, hfit, hnet, hNt, hN, hn, hroot, q⟩ := h
    refine ⟨_, (pss_one (ps_ret (pe_m C_go T.c_PartsWalk hr (pe_mk C_PartsWalk hr (by rfl) (pa_cons (pv 0) pa_nil)) (pa_cons (pv 1) (pa_cons (pv 2) pa_nil))))), ?_⟩
    refine ⟨_, rfl, fun w dx nw ndx ne => ?_⟩
    have sA : Same H (upd (upd H dx (.own w)) w (.ins CP dx [])) := fun b o e => by
      rw [upd_ne (ne_of_none e nw), upd_ne (ne_of_none e ndx)]
      exact e
    have hwA : upd (upd H dx (.own w)) w (.ins CP dx []) w = some (.ins CP dx []) := upd_same
    generalize upd (upd H dx (.own w)) w (.ins CP dx []) = HA at sA hwA ⊢
    refine ⟨w, a, dx, ps, N, rfl, hwA, sA.partsF hpf, hfit, hnet, hNt, fun H1 k1 hW1 => ⟨rfl, ?_⟩⟩
    have s1 : Same H H1 := fun b o e => k1 b o (sA b o e) (ne_of_none e nw)
    obtain ⟨dw, rd, md, kvr, kvm, h1, _⟩ := hW1.ex
    exact ⟨w, dw, _, rfl, h1, lw_go, _, rfl, _, rfl, w, n, N, ns, root, rfl, hW1, s1 _ _ hn, hN, hroot, fun p t vs v S' H' s' hp ht hvs hf hst hend => q p t vs v S' H' (s1.trans s') hp ht hvs hf hst hend⟩
noncomputable def spCell (K : PySem.W.Frag) : Sp := fun vs H Q _ => ∃ (a : Addr) (ns : List Int) (k : Int), vs = [.ref a, .int k] ∧ SqL K H a (ns.map V.int) ∧ 0 ≤ k ∧ ∀ c : Int, Q (.int c) H
theorem ok_cell (T : Txt K mg) : L2.Cl P w K mg base 1 "_law_cell_at" ["_law_script", "_law_k"] (spCell K) := by
  refine Cl.of T.d_law_cell_at sc_law_cell_at (fun vs H Q E h => ?_) (fun _ _ _ _ _ _ us hl => len2 us hl (fun _ _ => rfl)) (fun f cdv A outer s H vs Q E hr h => ?_)
  · obtain ⟨a, ns, k, rfl, _⟩ := h
    rfl
  · obtain ⟨a, ns, k, rfl, hS, hk, q⟩ := h
    refine ⟨_, (pss_cons (ps_if (pt_cmpR op_lt (pv 1) (pe_callB call_len_seq (by rfl) T.n_len PySem.boot_len (pa_cons (pv 0) pa_nil)) (nomark _))
        (pss_one (ps_ret (pe_ix ix_list (pv 0) (pv 1) (fun _ _ => rfl)))) pss_nil)
      (pss_one (ps_ret pe_int))), ?_⟩
    refine ⟨_, rfl, _, rfl, a, _, rfl, .inl hS, _, _, rfl, rfl, _, rfl, ?_⟩
    refine ite2 (fun hlt => ?_) (fun hlt => ?_)
    · have hlt' : k < (ns.length : Int) := by simpa using hlt
      refine ⟨_, rfl, _, rfl, a, _, _, _, rfl, rfl, hS, atI_map V.int ns 0 hk hlt', ?_⟩
      exact q _
    · exact q 0
theorem steps_next {N : Nt} {ns : List Int} {S S' : GS} {W : List Wx} {p : Str} {j : Nat} {rw : Rw} (h : Steps N ns S S') (hend : S'.wt = [] ∨ S'.ft ≠ none) (hf : S.ft = none) (hw : S.wt = W ++ [(p, j, rw)]) : Steps N ns (rowS N ns { S with wt := W } p j rw) S' := by
  cases h with
  | refl =>
    rcases hend with z | z
    · rw [hw] at z; simp at z
    · exact absurd hf z
  | step a b c =>
    rw [hw] at b
    have := List.append_inj' b rfl
    obtain ⟨e1, e2⟩ := this
    have e3 := List.head_eq_of_cons_eq e2
    cases e3
    subst e1
    exact c
noncomputable def leftC (ps : List Pt) (bg : List Str) : Nat := (ps.filter fun x => decide (x.1 ∉ bg)).length
theorem addN_new {bg : List Str} {p : Str} (hp : p ∉ bg) : addN bg p = bg ++ [p] := by unfold addN; rw [if_neg hp]
theorem leftC_begin {ps : List Pt} {bg : List Str} {p : Str} (h : p ∈ ps.map (·.1)) (hp : p ∉ bg) : leftC ps (bg ++ [p]) + 1 ≤ leftC ps bg := by
  unfold leftC
  have sub : ∀ l : List Pt, (l.filter fun x => decide (x.1 ∉ bg ++ [p])).length ≤ (l.filter fun x => decide (x.1 ∉ bg)).length := fun l => by
    induction l with
    | nil => exact Nat.le_refl _
    | cons a l ih =>
      rw [List.filter_cons, List.filter_cons]
      by_cases h1 : a.1 ∈ bg
      · rw [if_neg (by simp [h1]), if_neg (by simp [h1])]; exact ih
      · rw [if_pos (c := decide (a.1 ∉ bg) = true) (by simp [h1])]
        split
        · simp only [List.length_cons]; omega
        · simp only [List.length_cons]; omega
  induction ps with
  | nil => simp at h
  | cons a l ih =>
    rw [List.filter_cons, List.filter_cons]
    by_cases ha : a.1 = p
    · rw [if_neg (by simp [ha]), if_pos (by rw [ha]; simp [hp])]
      have := sub l
      simp only [List.length_cons]; omega
    · have hl : p ∈ l.map (·.1) := by
        rw [List.map_cons] at h
        rcases List.mem_cons.mp h with z | z
        · exact absurd z.symm ha
        · exact z
      have ih' := ih hl
      by_cases h1 : a.1 ∈ bg
      · rw [if_neg (by simp [h1]), if_neg (by simp [h1])]; exact ih'
      · rw [if_pos (by simp [h1, ha]), if_pos (by simp [h1])]
        simp only [List.length_cons]; omega
theorem leftC_mono {ps : List Pt} {bg bg' : List Str} (h : ∀ x ∈ bg, x ∈ bg') : leftC ps bg' ≤ leftC ps bg := by
  unfold leftC
  induction ps with
  | nil => exact Nat.le_refl _
  | cons a l ih =>
    rw [List.filter_cons, List.filter_cons]
    by_cases h1 : a.1 ∈ bg
    · rw [if_neg (by simp [h _ h1]), if_neg (by simp [h1])]; exact ih
    · rw [if_pos (c := decide (a.1 ∉ bg) = true) (by simp [h1])]
      split
      · simp only [List.length_cons]; omega
      · simp only [List.length_cons]; omega
theorem leftC_len (ps : List Pt) (bg : List Str) : leftC ps bg ≤ ps.length := List.length_filter_le _ _
noncomputable def entR : Rw → Option Str
  | .bring q _ => some q
  | .ask q _ => some q
  | _ => none
theorem tail_ent (N : Nt) (ns : List Int) (S : GS) (p : Str) (j : Nat) (rw : Rw) : tailS N ns S p j rw = match entR rw with | some q => enterS N S q | none => workS N ns S p j rw := by cases rw <;> rfl
noncomputable def stepG (N : Nt) (ns : List Int) (go : Str → GS → GS) (S : GS) (x : Wx) : GS :=
  if S.ft ≠ none then S else if offR N S.gv x.1 x.2.2 = true then S else match earlyR N S.gv x.1 x.2.2 with
    | some w => { S with ft := some ("early", x.1, x.2.1, w) }
    | none => match entR x.2.2 with
      | some q => if q ∈ S.bg then S else go q S
      | none => workS N ns S x.1 x.2.1 x.2.2
noncomputable def begG (N : Nt) (ns : List Int) : Nat → Str → GS → GS
  | 0, _, S => S
  | d + 1, p, S => (idxRows p (rowsN N p)).foldl (stepG N ns (begG N ns d)) { S with bg := S.bg ++ [p] }
section
variable {N : Nt} {ns : List Int} {go : Str → GS → GS} {S : GS} {x : Wx}
theorem stepG_ft (h : S.ft ≠ none) : stepG N ns go S x = S := by unfold stepG; rw [if_pos h]
theorem foldG_ft (h : S.ft ≠ none) : ∀ xs : List Wx, xs.foldl (stepG N ns go) S = S
  | [] => rfl
  | x :: xs => by rw [List.foldl_cons, stepG_ft h]; exact foldG_ft h xs
theorem stepG_off (h : S.ft = none) (ho : offR N S.gv x.1 x.2.2 = true) : stepG N ns go S x = S := by unfold stepG; rw [if_neg (by simp [h]), if_pos ho]
theorem stepG_early {w : Int} (h : S.ft = none) (ho : offR N S.gv x.1 x.2.2 = false) (he : earlyR N S.gv x.1 x.2.2 = some w) : stepG N ns go S x = { S with ft := some ("early", x.1, x.2.1, w) } := by unfold stepG; rw [if_neg (by simp [h]), if_neg (by simp [ho]), he]
theorem stepG_ent {q : Str} (h : S.ft = none) (ho : offR N S.gv x.1 x.2.2 = false) (he : earlyR N S.gv x.1 x.2.2 = none) (hq : entR x.2.2 = some q) : stepG N ns go S x = if q ∈ S.bg then S else go q S := by unfold stepG; rw [if_neg (by simp [h]), if_neg (by simp [ho]), he, hq]
theorem stepG_work (h : S.ft = none) (ho : offR N S.gv x.1 x.2.2 = false) (he : earlyR N S.gv x.1 x.2.2 = none) (hq : entR x.2.2 = none) : stepG N ns go S x = workS N ns S x.1 x.2.1 x.2.2 := by unfold stepG; rw [if_neg (by simp [h]), if_neg (by simp [ho]), he, hq]
theorem workS_wt (W : List Wx) (p : Str) (j : Nat) (rw : Rw) : workS N ns { S with wt := W } p j rw = { workS N ns S p j rw with wt := W } := by
  cases rw with
  | set o ts => simp only [workS]; split <;> rfl
  | take o => simp only [workS]; split <;> rfl
  | need ts => simp only [workS]; split <;> rfl
  | _ => rfl
theorem workS_bg (p : Str) (j : Nat) (rw : Rw) : (workS N ns S p j rw).bg = S.bg := by
  cases rw with
  | set o ts => simp only [workS]; split <;> rfl
  | take o => simp only [workS]; split <;> rfl
  | need ts => simp only [workS]; split <;> rfl
  | _ => rfl
theorem stepG_wt (hgo : ∀ q S W, go q { S with wt := W } = { go q S with wt := W }) (W : List Wx) : stepG N ns go { S with wt := W } x = { stepG N ns go S x with wt := W } := by
  by_cases h : S.ft = none
  · cases ho : offR N S.gv x.1 x.2.2 with
    | true => rw [stepG_off (S := { S with wt := W }) h ho, stepG_off h ho]
    | false =>
      cases he : earlyR N S.gv x.1 x.2.2 with
      | some w => rw [stepG_early (S := { S with wt := W }) h ho he, stepG_early h ho he]
      | none =>
        cases hq : entR x.2.2 with
        | some q =>
          rw [stepG_ent (S := { S with wt := W }) h ho he hq, stepG_ent h ho he hq]
          by_cases hb : q ∈ S.bg
          · rw [if_pos hb, if_pos hb]
          · rw [if_neg hb, if_neg hb, hgo]
        | none => rw [stepG_work (S := { S with wt := W }) h ho he hq, stepG_work h ho he hq, workS_wt]
  · rw [stepG_ft (S := { S with wt := W }) h, stepG_ft h]
theorem foldG_wt (hgo : ∀ q S W, go q { S with wt := W } = { go q S with wt := W }) (W : List Wx) : ∀ (xs : List Wx) (S : GS), xs.foldl (stepG N ns go) { S with wt := W } = { xs.foldl (stepG N ns go) S with wt := W }
  | [], S => rfl
  | x :: xs, S => by rw [List.foldl_cons, List.foldl_cons, stepG_wt hgo, foldG_wt hgo W xs]
theorem stepG_bg (hgo : ∀ q S, ∀ y ∈ S.bg, y ∈ (go q S).bg) : ∀ y ∈ S.bg, y ∈ (stepG N ns go S x).bg := by
  intro y hy
  by_cases h : S.ft = none
  · cases ho : offR N S.gv x.1 x.2.2 with
    | true => rw [stepG_off h ho]; exact hy
    | false =>
      cases he : earlyR N S.gv x.1 x.2.2 with
      | some w => rw [stepG_early h ho he]; exact hy
      | none =>
        cases hq : entR x.2.2 with
        | some q =>
          rw [stepG_ent h ho he hq]
          split
          · exact hy
          · exact hgo q S y hy
        | none => rw [stepG_work h ho he hq, workS_bg]; exact hy
  · rw [stepG_ft h]; exact hy
theorem foldG_bg (hgo : ∀ q S, ∀ y ∈ S.bg, y ∈ (go q S).bg) : ∀ (xs : List Wx) (S : GS), ∀ y ∈ S.bg, y ∈ (xs.foldl (stepG N ns go) S).bg
  | [], S, y, hy => hy
  | x :: xs, S, y, hy => by rw [List.foldl_cons]; exact foldG_bg hgo xs _ y (stepG_bg hgo y hy)
end
theorem begG_wt (N : Nt) (ns : List Int) : ∀ (d : Nat) (q : Str) (S : GS) (W : List Wx), begG N ns d q { S with wt := W } = { begG N ns d q S with wt := W }
  | 0, _, _, _ => rfl
  | d + 1, q, S, W => foldG_wt (begG_wt N ns d) W (idxRows q (rowsN N q)) { S with bg := S.bg ++ [q] }
theorem begG_bg (N : Nt) (ns : List Int) : ∀ (d : Nat) (q : Str) (S : GS), ∀ y ∈ S.bg, y ∈ (begG N ns d q S).bg
  | 0, _, _, _, h => h
  | d + 1, q, S, y, h => foldG_bg (begG_bg N ns d) (idxRows q (rowsN N q)) { S with bg := S.bg ++ [q] } y (List.mem_append_left _ h)
noncomputable def Out (N : Nt) (ns : List Int) (W : List Wx) (R S' : GS) : Prop := (R.ft = none ∧ Steps N ns { R with wt := W } S') ∨ (R.ft ≠ none ∧ S'.tr = R.tr ∧ S'.ft = R.ft)
theorem Out.wt {N : Nt} {ns : List Int} {W V : List Wx} {R S' : GS} (h : Out N ns W { R with wt := V } S') : Out N ns W R S' := h
theorem steps_stop {N : Nt} {ns : List Int} {S S' : GS} (h : Steps N ns S S') (hf : S.ft ≠ none) : S' = S := by
  cases h with
  | refl => rfl
  | step a b c => exact absurd a hf
theorem outG_rows {N : Nt} {ns : List Int} {d : Nat}
    (ih : ∀ (q : Str) (S S' : GS), q ∈ N.ps.map (·.1) → q ∉ S.bg → S.ft = none → leftC N.ps S.bg ≤ d → Steps N ns (beginS N S q) S' → (S'.wt = [] ∨ S'.ft ≠ none) → Out N ns S.wt (begG N ns d q S) S') :
    ∀ (xs : List Wx) (S S' : GS) (W : List Wx), (∀ x ∈ xs, ∀ q, entR x.2.2 = some q → q ∈ N.ps.map (·.1)) → S.ft = none → S.wt = W ++ xs.reverse → leftC N.ps S.bg ≤ d → Steps N ns S S' → (S'.wt = [] ∨ S'.ft ≠ none) → Out N ns W (xs.foldl (stepG N ns (begG N ns d)) S) S'
  | [], S, S', W, _, hf, hw, _, hst, _ => by
    have e : { S with wt := W } = S := by
      have : S.wt = W := by rw [hw]; simp
      rw [← this]
    exact .inl ⟨hf, by rw [List.foldl_nil, e]; exact hst⟩
  | (p, j, r) :: xs, S, S', W, hx, hf, hw, hd, hst, hend => by
    have hw' : S.wt = (W ++ xs.reverse) ++ [(p, j, r)] := by rw [hw, List.reverse_cons, List.append_assoc]
    have hnx := steps_next hst hend hf hw'
    have hxs : ∀ x ∈ xs, ∀ q, entR x.2.2 = some q → q ∈ N.ps.map (·.1) := fun x h => hx x (by simp [h])
    rw [List.foldl_cons]
    have wtg := begG_wt N ns d
    cases ho : offR N S.gv p r with
    | true =>
      rw [rowS_off (S := { S with wt := W ++ xs.reverse }) ho] at hnx
      rw [stepG_off hf ho]
      have := outG_rows ih xs { S with wt := W ++ xs.reverse } S' W hxs hf rfl hd hnx hend
      rw [foldG_wt wtg] at this
      exact this.wt
    | false =>
      cases he : earlyR N S.gv p r with
      | some w =>
        rw [rowS_early (S := { S with wt := W ++ xs.reverse }) ho he] at hnx
        rw [stepG_early hf ho he, foldG_ft (by simp)]
        have e := steps_stop hnx (by simp)
        exact .inr ⟨by simp, by rw [e], by rw [e]⟩
      | none =>
        rw [rowS_none (S := { S with wt := W ++ xs.reverse }) ho he, tail_ent] at hnx
        cases hq : entR r with
        | some q =>
          rw [hq] at hnx
          have hqn := hx (p, j, r) (by simp) q hq
          rw [stepG_ent hf ho he hq]
          have hnx' : Steps N ns (enterS N { S with wt := W ++ xs.reverse } q) S' := hnx
          unfold enterS at hnx'
          by_cases hb : q ∈ S.bg
          · rw [if_pos hb] at hnx' ⊢
            have := outG_rows ih xs { S with wt := W ++ xs.reverse } S' W hxs hf rfl hd hnx' hend
            rw [foldG_wt wtg] at this
            exact this.wt
          · rw [if_neg hb] at hnx' ⊢
            have h1 := ih q { S with wt := W ++ xs.reverse } S' hqn hb hf hd hnx' hend
            rw [wtg] at h1
            rcases h1 with ⟨k1, k2⟩ | ⟨k1, k2, k3⟩
            · have hm : leftC N.ps (begG N ns d q S).bg ≤ d := Nat.le_trans (leftC_mono (begG_bg N ns d q S)) hd
              have := outG_rows ih xs { begG N ns d q S with wt := W ++ xs.reverse } S' W hxs k1 rfl hm k2 hend
              rw [foldG_wt wtg] at this
              exact this.wt
            · have k1' : (begG N ns d q S).ft ≠ none := k1
              rw [foldG_ft k1']
              exact .inr ⟨k1', k2, k3⟩
        | none =>
          rw [hq] at hnx
          have hnx' : Steps N ns (workS N ns { S with wt := W ++ xs.reverse } p j r) S' := hnx
          rw [workS_wt] at hnx'
          rw [stepG_work hf ho he hq]
          by_cases hw2 : (workS N ns S p j r).ft = none
          · have hm : leftC N.ps (workS N ns S p j r).bg ≤ d := by rw [workS_bg]; exact hd
            have := outG_rows ih xs { workS N ns S p j r with wt := W ++ xs.reverse } S' W hxs hw2 rfl hm hnx' hend
            rw [foldG_wt wtg] at this
            exact this.wt
          · have e := steps_stop hnx' hw2
            rw [foldG_ft hw2]
            exact .inr ⟨hw2, by rw [e], by rw [e]⟩
theorem idx_ent {N : Nt} (hN : NtOk N) {p : Str} (hp : p ∈ N.ps.map (·.1)) : ∀ x ∈ idxRows p (rowsN N p), ∀ q, entR x.2.2 = some q → q ∈ N.ps.map (·.1) := by
  obtain ⟨⟨p', rs⟩, h1, h2⟩ := List.mem_map.mp hp
  have h2' : p' = p := h2
  subst h2'
  rw [rowsN_eq hN.nd h1]
  intro x hx q hq
  unfold idxRows at hx
  obtain ⟨i, hi, ei⟩ := List.mem_mapIdx.mp hx
  rw [← ei] at hq
  have hq' : entR rs[i] = some q := hq
  refine hN.tg p' rs h1 rs[i] (List.getElem_mem hi) q ?_
  cases h : rs[i] with
  | bring b l => rw [h] at hq'; cases hq'; exact .inl ⟨l, rfl⟩
  | ask b w => rw [h] at hq'; cases hq'; exact .inr ⟨w, rfl⟩
  | _ => rw [h] at hq'; cases hq'
theorem outG_begin {N : Nt} {ns : List Int} (hN : NtOk N) : ∀ (d : Nat) (q : Str) (S S' : GS), q ∈ N.ps.map (·.1) → q ∉ S.bg → S.ft = none → leftC N.ps S.bg ≤ d → Steps N ns (beginS N S q) S' → (S'.wt = [] ∨ S'.ft ≠ none) → Out N ns S.wt (begG N ns d q S) S'
  | 0, q, S, S', hq, hn, _, hd, _, _ => by
    have := leftC_begin hq hn
    omega
  | d + 1, q, S, S', hq, hn, hf, hd, hst, hend => by
    have hl := leftC_begin hq hn
    have hb : beginS N S q = { { S with bg := S.bg ++ [q] } with wt := S.wt ++ (idxRows q (rowsN N q)).reverse } := by
      unfold beginS
      rw [addN_new hn]
    rw [hb] at hst
    have := outG_rows (outG_begin hN d) (idxRows q (rowsN N q)) { { S with bg := S.bg ++ [q] } with wt := S.wt ++ (idxRows q (rowsN N q)).reverse } S' S.wt (idx_ent hN hq) hf rfl (by show leftC N.ps (S.bg ++ [q]) ≤ d; omega) hst hend
    rw [foldG_wt (begG_wt N ns d)] at this
    exact this.wt
theorem runG {N : Nt} {ns : List Int} (hN : NtOk N) {root : Str} (hr : root ∈ N.ps.map (·.1)) {S' : GS} (hst : Steps N ns (beginS N s0 root) S') (hend : S'.wt = [] ∨ S'.ft ≠ none) : S'.tr = (begG N ns 24 root s0).tr ∧ S'.ft = (begG N ns 24 root s0).ft := by
  rcases outG_begin hN 24 root s0 S' hr (by simp [s0]) rfl (Nat.le_trans (leftC_len _ _) hN.len) hst hend with ⟨k1, k2⟩ | ⟨_, k2, k3⟩
  · have e : S' = { begG N ns 24 root s0 with wt := s0.wt } := by
      cases k2 with
      | refl => rfl
      | step a b c => simp [s0] at b
    rw [e]
    exact ⟨rfl, rfl⟩
  · exact ⟨k2, k3⟩
@[elab_as_elim] theorem len5 {α : Type} {p : List α → Prop} (us : List α) (hl : us.length = 5) (h : ∀ a b c d e, p [a, b, c, d, e]) : p us := match us, hl with | [a, b, c, d, e], _ => h a b c d e
structure RwG (nms X : List Str) (r : Rw) : Prop where
  fl : pairsOf r = [] ∧ giveOf r = none
  rd : ∀ d ∈ rdR r, d.2 ∈ X
  ow : ∀ o, ownR r = some o → o ∈ X
  sg : ∀ d ∈ sgR r, d.1 = 1 ∨ d.1 = -1
  nm : ∀ d ∈ sgR r, ∀ x, d.2 = .nam x → ∃ e ∈ rdR r, e.2 = x
  tg : ∀ q, (∃ ps, r = .bring q ps) ∨ (∃ wh, r = .ask q wh) → q ∈ nms
  kd : isWork r = true
structure PGn (ps : List Pt) : Prop where
  fit : PsFit ps
  lo : 0 < ps.length
  tot : (ps.map fun x => x.2.length).sum ≤ 64
  rw : ∀ pt ∈ ps, ∀ r ∈ pt.2, RwG (ps.map (·.1)) (pt.2.filterMap ownOf) r
  nd : ∀ pt ∈ ps, (pt.2.filterMap ownOf).Nodup
theorem pls_at {ps : List Pt} {x : Pl} (h : x ∈ plsOf ps) : ∃ rs, (x.1, rs) ∈ ps ∧ rs[x.2.1]? = some x.2.2 := by
  unfold plsOf at h
  obtain ⟨pt, h1, h2⟩ := List.mem_flatMap.mp h
  unfold rowsPl at h2
  obtain ⟨y, hy, e⟩ := List.mem_map.mp h2
  rw [← e]
  obtain ⟨a1, a2, a3⟩ := List.mem_zipIdx (x := y.1) (i := y.2) (k := 0) (by simpa using hy)
  refine ⟨pt.2, h1, ?_⟩
  show pt.2[y.2]? = some y.1
  rw [a3, List.getElem?_eq_getElem (by omega)]
  simp
theorem pls_in {ps : List Pt} {p : Str} {rs : List Rw} {j : Nat} {r : Rw} (h : (p, rs) ∈ ps) (hj : rs[j]? = some r) : (p, j, r) ∈ plsOf ps := by
  unfold plsOf
  refine List.mem_flatMap.mpr ⟨_, h, ?_⟩
  unfold rowsPl
  refine List.mem_map.mpr ⟨(r, j), ?_, rfl⟩
  rw [List.mk_mem_zipIdx_iff_getElem?]
  exact hj
theorem mls_at {ps : List Pt} {p o : Str} {k : Str × Nat} (h : ((p, o), k) ∈ mlsOf (plsOf ps)) : ∃ rs j r, k = (p, j) ∧ (p, rs) ∈ ps ∧ rs[j]? = some r ∧ ownOf r = some o := by
  unfold mlsOf at h
  obtain ⟨x, hx, e⟩ := List.mem_filterMap.mp h
  obtain ⟨o', ho, e2⟩ := Option.map_eq_some_iff.mp e
  have e3 : x.1 = p ∧ o' = o := by
    have := (Prod.mk.inj e2).1
    exact ⟨(Prod.mk.inj this).1, (Prod.mk.inj this).2⟩
  obtain ⟨rs, h1, h2⟩ := pls_at hx
  rw [e3.1] at h1
  refine ⟨rs, x.2.1, x.2.2, ?_, h1, h2, by rw [ho, e3.2]⟩
  rw [← (Prod.mk.inj e2).2, e3.1]
theorem mls_in {ps : List Pt} {p o : Str} {rs : List Rw} {j : Nat} {r : Rw} (h : (p, rs) ∈ ps) (hj : rs[j]? = some r) (ho : ownOf r = some o) : ((p, o), (p, j)) ∈ mlsOf (plsOf ps) := by
  unfold mlsOf
  refine List.mem_filterMap.mpr ⟨(p, j, r), pls_in h hj, ?_⟩
  show (ownOf r).map _ = _
  rw [ho]
  rfl
theorem mls_part (p : Str) : ∀ (rs : List Rw) (k : Nat), (((rs.zipIdx k).map fun x => ((p, x.2, x.1) : Pl)).filterMap fun x => (ownOf x.2.2).map fun o => ((x.1, o), (x.1, x.2.1))).map (·.1) = (rs.filterMap ownOf).map fun o => (p, o)
  | [], _ => rfl
  | r :: rs, k => by
    rw [List.zipIdx_cons, List.map_cons, List.filterMap_cons, List.filterMap_cons]
    have ih := mls_part p rs (k + 1)
    cases h : ownOf r with
    | none =>
      simp only [h, Option.map_none]
      exact ih
    | some o =>
      simp only [h, Option.map_some, List.map_cons]
      rw [ih]
theorem nodup_pair (p : Str) {l : List Str} (h : l.Nodup) : (l.map fun o => (p, o)).Nodup := List.pairwise_map.mpr (List.Pairwise.imp (fun h e => h (Prod.mk.inj e).2) h)
theorem mls_nd {ps : List Pt} (hn : (ps.map (·.1)).Nodup) (hd : ∀ pt ∈ ps, (pt.2.filterMap ownOf).Nodup) : ((mlsOf (plsOf ps)).map (·.1)).Nodup := by
  have e : (mlsOf (plsOf ps)).map (·.1) = ps.flatMap fun pt => (pt.2.filterMap ownOf).map fun o => (pt.1, o) := by
    unfold mlsOf plsOf
    rw [List.filterMap_flatMap, List.map_flatMap]
    congr 1
    funext pt
    exact mls_part pt.1 pt.2 0
  rw [e]
  refine List.pairwise_flatMap.mpr ⟨fun pt hpt => nodup_pair pt.1 (hd pt hpt), ?_⟩
  refine List.Pairwise.imp ?_ (List.pairwise_map.mp hn)
  intro a b hab x hx y hy z
  obtain ⟨o, _, e1⟩ := List.mem_map.mp hx
  obtain ⟨o', _, e2⟩ := List.mem_map.mp hy
  rw [← e1, ← e2] at z
  exact hab (Prod.mk.inj z).1
theorem find_key {α β : Type} [DecidableEq α] : ∀ {m : List (α × β)} {k : α} {v : β}, (m.map (·.1)).Nodup → (k, v) ∈ m → (m.find? fun y => decide (y.1 = k)).map (·.2) = some v
  | [], _, _, _, h => by simp at h
  | y :: r, k, v, hn, h => by
    rw [List.map_cons, List.nodup_cons] at hn
    rcases List.mem_cons.mp h with e | e
    · rw [← e, List.find?_cons_of_pos (by simp)]; rfl
    · have hne : ¬ y.1 = k := fun z => hn.1 (by rw [z]; exact List.mem_map_of_mem (f := (·.1)) e)
      rw [List.find?_cons_of_neg (by simpa using hne)]
      exact find_key hn.2 e
noncomputable def netG (ps : List Pt) : Nt := ⟨ps, fun x => ((mlsOf (plsOf ps)).find? fun y => decide (y.1 = x)).map (·.2)⟩
theorem km_mem {ps : List Pt} {x : Kk} {k : Str × Nat} (h : (netG ps).km x = some k) : (x, k) ∈ mlsOf (plsOf ps) := by
  have h' : ((mlsOf (plsOf ps)).find? fun y => decide (y.1 = x)).map (·.2) = some k := h
  obtain ⟨y, hy, ey⟩ := Option.map_eq_some_iff.mp h'
  have hm := List.mem_of_find?_eq_some hy
  have hx : y.1 = x := by simpa using List.find?_some hy
  rw [← hx, ← ey]
  exact hm
theorem km_at {ps : List Pt} (hP : PGn ps) {p o : Str} {rs : List Rw} {j : Nat} {r : Rw} (h : (p, rs) ∈ ps) (hj : rs[j]? = some r) (ho : ownOf r = some o) : (netG ps).km (p, o) = some (p, j) := find_key (mls_nd hP.fit.nd hP.nd) (mls_in h hj ho)
theorem km_own {ps : List Pt} (hP : PGn ps) {p o : Str} {rs : List Rw} (h : (p, rs) ∈ ps) (ho : o ∈ rs.filterMap ownOf) : ∃ k, (netG ps).km (p, o) = some k := by
  obtain ⟨r, hr, e⟩ := List.mem_filterMap.mp ho
  obtain ⟨j, hj, ej⟩ := List.getElem_of_mem hr
  exact ⟨_, km_at hP h (by rw [List.getElem?_eq_getElem hj, ej]) e⟩
theorem ps_uniq {ps : List Pt} (hn : (ps.map (·.1)).Nodup) {p : Str} {rs rs' : List Rw} (h : (p, rs) ∈ ps) (h' : (p, rs') ∈ ps) : rs = rs' := by
  have a := rowsN_eq (N := ⟨ps, fun _ => none⟩) hn h
  have b := rowsN_eq (N := ⟨ps, fun _ => none⟩) hn h'
  exact a.symm.trans b
theorem km_inj {ps : List Pt} (hP : PGn ps) {x y : Kk} {k : Str × Nat} (h : (netG ps).km x = some k) (h' : (netG ps).km y = some k) : x = y := by
  obtain ⟨p, o⟩ := x
  obtain ⟨p', o'⟩ := y
  obtain ⟨rs, j, r, e1, e2, e3, e4⟩ := mls_at (km_mem h)
  obtain ⟨rs', j', r', f1, f2, f3, f4⟩ := mls_at (km_mem h')
  rw [e1] at f1
  obtain ⟨g1, g2⟩ := Prod.mk.inj f1
  subst g1
  subst g2
  have := ps_uniq hP.fit.nd e2 f2
  subst this
  rw [e3] at f3
  have := Option.some.inj f3
  subst this
  rw [e4] at f4
  rw [Option.some.inj f4]
theorem netG_nil {ps : List Pt} (hP : PGn ps) : blsOf (plsOf ps) = [] ∧ glsOf (plsOf ps) = [] := by
  have hr : ∀ x ∈ plsOf ps, pairsOf x.2.2 = [] ∧ giveOf x.2.2 = none := fun x hx => by
    obtain ⟨rs, h1, h2⟩ := pls_at hx
    exact (hP.rw _ h1 _ (List.mem_of_getElem? h2)).fl
  refine ⟨?_, ?_⟩
  · unfold blsOf
    rw [List.flatMap_eq_nil_iff]
    intro x hx
    rw [(hr x hx).1]
    rfl
  · unfold glsOf
    rw [List.filterMap_eq_nil_iff]
    intro x hx
    rw [(hr x hx).2]
    rfl
theorem netG_ok {ps : List Pt} (hP : PGn ps) : NetOk (plsOf ps) := by
  obtain ⟨h2, h3⟩ := netG_nil hP
  have h4 : llsOf (plsOf ps) = [] := by unfold llsOf; rw [h2]; rfl
  refine ⟨?_, ?_, ?_, ?_, ⟨fun _ => 0, ?_⟩, ?_, ?_⟩
  · rw [h2, List.map_nil, List.append_nil]; exact mls_nd hP.fit.nd hP.nd
  · rw [h3]; exact List.nodup_nil
  · rw [h2]; intro x hx; simp at hx
  · rw [h3]; intro x hx; simp at hx
  · rw [h4]; intro x hx; simp at hx
  · have := plsOf_len hP.fit.rows
    have := hP.fit.hi
    omega
  · intro x hx
    obtain ⟨rs, k1, k2⟩ := pls_at hx
    rw [(hP.rw _ k1 _ (List.mem_of_getElem? k2)).fl.1]
    exact Nat.zero_le _
theorem netG_of (ps : List Pt) : NtOf ps (netG ps) := ⟨rfl, fun x k e => .base (km_mem e)⟩
theorem netG_nt {ps : List Pt} (hP : PGn ps) : NtOk (netG ps) := by
  refine ⟨hP.fit.nd, fun p rs hm rw hr => ?_, fun p rs hm rw hr q hq => (hP.rw _ hm rw hr).tg q hq, fun p rs hm rw hr => (hP.rw _ hm rw hr).kd, ?_, hP.fit.hi⟩
  · have hg := hP.rw _ hm rw hr
    have hk : ∀ x, x ∈ rs.filterMap ownOf → ((netG ps).km (p, x)).isSome = true := fun x hx => by
      obtain ⟨k, e⟩ := km_own hP hm hx
      rw [e]; rfl
    exact ⟨fun d hd => hk _ (hg.rd d hd), fun o ho => hk o (hg.ow o ho), hg.sg, hg.nm⟩
  · have := hP.tot
    show (ps.map fun x => x.2.length).sum ≤ 900
    omega
theorem names_in {x : Str} : ∀ (ts : List (Int × Th)) (k : Int) {d : Int × Th}, d ∈ ts → d.2 = .nam x → ∃ e ∈ L2.namesOf k ts, e.2 = x
  | [], _, _, h, _ => by simp at h
  | (s, .num n) :: ts, k, d, h, e => by
    rcases List.mem_cons.mp h with z | z
    · rw [z] at e; cases e
    · exact names_in ts (k + 2) z e
  | (s, .nam y) :: ts, k, d, h, e => by
    rcases List.mem_cons.mp h with z | z
    · rw [z] at e
      cases e
      exact ⟨(k, x), by simp [L2.namesOf], rfl⟩
    · obtain ⟨e', h1, h2⟩ := names_in ts (k + 2) z e
      exact ⟨e', by simp [L2.namesOf, h1], h2⟩
theorem iteDT {c A B : Prop} [Decidable c] (hc : c) (h : A) : if decide c = true then A else B := by rw [if_pos (decide_eq_true hc)]; exact h
theorem iteDF {c A B : Prop} [Decidable c] (hc : ¬ c) (h : B) : if decide c = true then A else B := by rw [if_neg (by rw [decide_eq_false hc]; exact Bool.false_ne_true)]; exact h
theorem ok_whole (T : Txt K mg) : L2.Cl P w K mg base 1 "_law_whole" ["_law_found"] (fun vs H Q _ => ∃ i : Int, vs = [.int i] ∧ Q (.bl true) H) := by
  refine Cl.of T.d_law_whole sc_law_whole (fun vs H Q E h => ?_) (fun _ _ _ _ _ _ us hl => len1 us hl (fun _ => rfl)) (fun fa cdv A outer s H vs Q E hr h => ?_)
  · obtain ⟨c, rfl, _⟩ := h
    rfl
  · obtain ⟨c, rfl, q⟩ := h
    refine ⟨_, (pss_one (ps_ret (pe_and (pe_callB call_isinst (by rfl) T.n_isinstance PyProof.Rows.boot_isinstance (pa_cons (pv 0) (pa_cons (pe_bltn (v := .ty "int") (by rfl) T.n_int boot_int rfl) pa_nil))) (pe_one (pe_not (pe_callB call_isinst (by rfl) T.n_isinstance PyProof.Rows.boot_isinstance (pa_cons (pv 0) (pa_cons (pe_bltn (v := .ty "bool") (by rfl) T.n_bool boot_bool rfl) pa_nil)))))))), ?_⟩
    refine ⟨_, rfl, _, _, _, _, rfl, .int c, kit_same _ _, _, rfl, iteT ?_⟩
    exact ⟨_, rfl, _, _, _, _, rfl, .int c, kit_int_bool _, _, rfl, q⟩
noncomputable def spNumber : Sp := fun vs H Q _ => ∃ c : Int, vs = [.int c] ∧ ∀ i : Int, Q (.int i) H
theorem ok_number (T : Txt K mg) : L2.Cl P w K mg base 1 "_law_number" ["_law_cell"] spNumber := by
  refine Cl.of T.d_law_number sc_law_number (fun vs H Q E h => ?_) (fun _ _ _ _ _ _ us hl => len1 us hl (fun _ => rfl)) (fun fa cdv A outer s H vs Q E hr h => ?_)
  · obtain ⟨c, rfl, _⟩ := h
    rfl
  · obtain ⟨c, rfl, q⟩ := h
    refine ⟨_, (pss_cons (ps_if (pt_cmpR op_eq (pe_op op_mod (pv 0) pe_int) pe_int (nomark _))
        (pss_one (ps_ret (pe_op op_sub (pe_op op_mod (pe_op op_fdiv (pv 0) pe_int) pe_int) pe_int))) pss_nil)
      (pss_one (ps_ret (pe_op op_add (pe_op op_sub (pe_op op_mod (pe_op op_fdiv (pv 0) pe_int) (pe_op op_sub (pe_op op_mul pe_int (pe_op op_pow pe_int pe_int)) pe_int)) (pe_op op_pow pe_int pe_int)) pe_int)))), ?_⟩
    refine ⟨_, rfl, _, _, rfl, rfl, (by show (0 : Int) < 2; decide), rfl, _, rfl, ite2 (fun _ => ?_) (fun _ => ?_)⟩
    · exact ⟨_, rfl, _, _, rfl, rfl, ⟨by decide, by decide⟩, _, _, rfl, rfl, (by show (0 : Int) < 5; decide), _, _, rfl, rfl, q _⟩
    · exact ⟨_, rfl, _, _, rfl, rfl, ⟨by decide, by decide⟩, _, _, rfl, rfl, ⟨by decide, by decide, by decide⟩, _, _, rfl, rfl, .inl ⟨by decide, by decide⟩, _, _, rfl, rfl, _, _, rfl, rfl, (by show (0 : Int) < 2 * 10 ^ (60 : Int).toNat - 1; decide), _, _, rfl, rfl, ⟨by decide, by decide, by decide⟩, _, _, rfl, rfl, _, _, rfl, rfl, q _⟩
theorem ifs_same {t : TT} {te : TE} {R : TS} {D : Ends} {i : Nat} {σ : L2.St} {H : Hp} {r : VK} {b k : L2.St → Hp → Prop} {v : V} (C : Prop) (J : V → Hp → Prop) (ht : ∀ Q : Bool → Hp → Prop, (∀ a H', Same H H' → (a = true → C) → Q a H') → t (σ.set i (some v)) H Q) (hA : C → ∀ H1, Same H H1 → ∀ Q : VK, (∀ x H2, Same H1 H2 → J x H2 → Q x H2) → te (σ.set i (some v)) H1 Q) (h0 : ∀ H', Same H H' → J v H') (hR : ∀ x H', Same H H' → J x H' → R D (σ.set i (some x)) H') : gName i v σ H (Ends.nx ⟨tSeq (tIfS t (tAsg te (gName i)) tNext) R D, r, b, k⟩) := by
  refine ht _ fun a H1 s1 hc => ?_
  cases a with
  | true =>
    refine iteT (hA (hc rfl) H1 s1 _ fun x H2 s2 h => ?_)
    show R D ((σ.set i (some v)).set i (some x)) H2
    rw [List.set_set]
    exact hR x H2 (s1.trans s2) h
  | false => exact iteF (hR v H1 s1 (h0 H1 s1))
noncomputable def letsS : Str := "abcdef"
noncomputable def bases : List Str := ["", "q", "when", "u7", "set"]
theorem lets_at : ∀ k : Nat, k < 6 → atI letsS.cps.toList (k : Int) = some (97 + k) := by decide +kernel
theorem base_all : ∀ y ∈ bases, ∀ a ∈ List.range (y.length + 1), (slP y none (some ((a : Nat) : Int))).length ≤ 10 ∧ (slP y (some ((a : Nat) : Int)) none).length ≤ 10 ∧ y.length ≤ 10 := by decide +kernel
noncomputable def nmF (y : Str) (a : Int) (c : Nat) : Str := slP y none (some a) ++ (⟨#[c]⟩ : Str) ++ slP y (some a) none
theorem nmF_inj {y : Str} {a : Int} {c c' : Nat} (h : nmF y a c = nmF y a c') : c = c' := by
  unfold nmF at h
  generalize slP y none (some a) = u at h
  generalize slP y (some a) none = v at h
  have h1 := congrArg (fun z : Str => z.cps.toList) h
  have e : ∀ z : Nat, ((u ++ (⟨#[z]⟩ : Str) ++ v) : Str).cps.toList = u.cps.toList ++ ([z] ++ v.cps.toList) := fun z => by
    show ((u.cps ++ #[z]) ++ v.cps).toList = _
    rw [Array.toList_append, Array.toList_append, List.append_assoc]
  have h2 : u.cps.toList ++ ([c] ++ v.cps.toList) = u.cps.toList ++ ([c'] ++ v.cps.toList) := by rw [← e, ← e]; exact h1
  have h3 := List.append_cancel_left h2
  exact (List.cons.inj h3).1
noncomputable def bs22 (f : Int) : Str := bases.getD (f % 5).toNat ""
noncomputable def nm22 (f : Int) (k : Nat) : Str := nmF (bs22 f) (f / 5 % (((bs22 f).length : Int) + 1)) (97 + k)
theorem nm22_inj {f : Int} {k k' : Nat} (h : nm22 f k = nm22 f k') : k = k' := by
  have := nmF_inj h
  omega
noncomputable def spNameL : Sp := fun vs H Q _ => ∃ (f : Int) (k : Nat), vs = [.int f, .int (k : Int)] ∧ k < 6 ∧ ∀ H' : Hp, Same H H' → Q (.str (nm22 f k)) H'
theorem ok_nameL (T : Txt K mg) : L2.Cl P w K mg base 1 "_law_name" ["_law_cell", "_law_k"] spNameL := by
  refine Cl.of T.d_law_name sc_law_name (fun vs H Q E h => ?_) (fun _ _ _ _ _ _ us hl => len2 us hl (fun _ _ => rfl)) (fun fa cdv A outer s H vs Q E hr h => ?_)
  · obtain ⟨f, k, rfl, _⟩ := h
    rfl
  · obtain ⟨f, k, rfl, hk, q⟩ := h
    have ey : atI (bases.map V.str) (f % 5) = some (.str (bs22 f)) := atI_map V.str bases "" (by omega) (by show f % 5 < 5; omega)
    have hy : bs22 f ∈ bases := by
      have : ∀ i : Nat, i < 5 → bases.getD i "" ∈ bases := by decide +kernel
      exact this _ (by omega)
    have ec := lets_at k hk
    have hq : ∀ H' : Hp, Same H H' → Q (.str (nmF (bs22 f) (f / 5 % (((bs22 f).length : Int) + 1)) (97 + k))) H' := q
    clear q
    generalize bs22 f = y at ey hy hq
    refine ⟨_, (pss_cons (ps_set (i := 2) sc_law_name.nd rfl (Or.inl rfl) (pe_ix ix_list (pe_lst (pa_strs (.cons (.cons (.cons (.cons (.cons .nil))))))) (pe_op op_mod (pv 0) pe_int) (fun _ _ => rfl)))
      (pss_cons (ps_set (i := 3) sc_law_name.nd rfl (Or.inl rfl) (pe_op op_mod (pe_op op_fdiv (pv 0) pe_int) (pe_op op_add (pe_callB call_len_str (by rfl) T.n_len PySem.boot_len (pa_cons (pv 2) pa_nil)) pe_int)))
      (pss_one (ps_ret (pe_op op_add_str (pe_op op_add_str (pe_slice sl_strG (pv 2) po_none (po_some (pv 3))) (pe_ix ix_str pe_str (pv 1) (fun _ _ => rfl))) (pe_slice sl_strG (pv 2) (po_some (pv 3)) po_none)))))), ?_⟩
    refine ⟨(by show 5 ≤ sizeLine; decide), fun l gl => ?_⟩
    refine ⟨_, rfl, _, _, rfl, rfl, (by show (0 : Int) < 5; decide), l, _, _, _, rfl, rfl, SqL.of upd_same, ey, ?_⟩
    have s1 := (Same.refl H).new (o := .lst (bases.map V.str)) gl
    obtain ⟨a, ha, hae⟩ : ∃ a : Nat, a ∈ List.range (y.length + 1) ∧ f / 5 % ((y.length : Int) + 1) = (a : Int) := by
      have h0 : 0 ≤ f / 5 % ((y.length : Int) + 1) := Int.emod_nonneg _ (by omega)
      have h1 : f / 5 % ((y.length : Int) + 1) < (y.length : Int) + 1 := Int.emod_lt_of_pos _ (by omega)
      exact ⟨(f / 5 % ((y.length : Int) + 1)).toNat, by rw [List.mem_range]; omega, by omega⟩
    obtain ⟨h2, h3, h4⟩ := base_all y hy a ha
    have hsz : sizeLine = 16777216 := sizeLine_eq
    rw [hae] at hq
    refine ⟨_, rfl, _, _, rfl, rfl, ⟨by decide, by decide⟩, _, rfl, _, rfl, (by omega), _, _, rfl, rfl, _, _, rfl, rfl, (by show (0 : Int) < (y.length : Int) + 1; omega), ?_⟩
    dsimp only
    rw [hae]
    refine ⟨_, rfl, _, rfl, _, rfl, y, rfl, (by omega), ?_⟩
    refine ⟨_, rfl, letsS, (k : Int), 97 + k, rfl, rfl, (by show 6 ≤ sizeLine; decide), ec, ?_⟩
    refine ⟨_, _, rfl, rfl, (by show _ + 1 ≤ sizeLine; omega), ?_⟩
    refine ⟨_, rfl, _, rfl, _, rfl, y, rfl, (by omega), ?_⟩
    refine ⟨_, _, rfl, rfl, (by rw [Str.length_append]; show (_ + 1) + _ ≤ sizeLine; omega), ?_⟩
    exact hq _ s1
theorem to_set {i j : Nat} {v w : V} {σ : L2.St} {H : Hp} {X R : TS} {D : Ends} {r : VK} {b k : L2.St → Hp → Prop} (h : gName j w (σ.set i (some v)) H (Ends.nx ⟨tSeq X R D, r, b, k⟩)) : gName i v σ H (Ends.nx ⟨tSeq (tAsg (tC w) (gName j)) (tSeq X R) D, r, b, k⟩) := h
noncomputable def spKinds : Sp := fun vs H Q _ => ∃ (p t : Addr) (vs' : List V) (v : V) (ds : List Dd) (ft : Option Ft), vs = [.ref p] ∧ H p = some (.tup [.ref t, v]) ∧ H t = some (.tup vs') ∧ Paired (DdAt H) vs' ds ∧ FtAt H v ft ∧ Q (.bl true) H
theorem ok_kinds (T : Txt K mg) : L2.Cl P w K mg base 2 "_law_kinds" ["_law_found"] spKinds := by
  have C_law_whole := ok_whole (P := P) (w := w) (base := base) T
  refine Cl.of T.d_law_kinds sc_law_kinds (fun vs H Q E h => ?_) (fun _ _ _ _ _ _ us hl => len1 us hl (fun _ => rfl)) (fun fa cdv A outer s H vs Q E hr h => ?_)
  · obtain ⟨p, t, vs', v, ds, ft, rfl, _⟩ := h
    rfl
  · obtain ⟨p, t, vs', v, ds, ft, rfl, hp, ht, hvs, hft, q⟩ := h
    refine ⟨_, (pss_cons (ps_if (PW.pt (pw_or (pt_not (pt_val (pe_callB call_isinst (by rfl) T.n_isinstance PyProof.Rows.boot_isinstance (pa_cons (pv 0) (pa_cons (pe_bltn (v := .ty "tuple") (by rfl) T.n_tuple boot_tuple rfl) pa_nil))))) (pw_or (pt_cmpR op_ne (pe_callB call_len_seq (by rfl) T.n_len PySem.boot_len (pa_cons (pv 0) pa_nil)) pe_int (nomark _)) (pw_or1 (pt_not (pt_val (pe_callB call_isinst (by rfl) T.n_isinstance PyProof.Rows.boot_isinstance (pa_cons (pe_ix ix_tup (pv 0) pe_int (fun _ _ => rfl)) (pa_cons (pe_bltn (v := .ty "tuple") (by rfl) T.n_tuple boot_tuple rfl) pa_nil)))))))))
        (pss_one (ps_ret pe_bl)) pss_nil)
      (pss_cons (ps_for PassesOwn.never rfl (pi_tup (pe_ix ix_tup (pv 0) pe_int (fun _ _ => rfl))) (pg_name (i := 1) sc_law_kinds.nd rfl (Or.inl rfl))
        (pss_one (ps_if (PW.pt (pw_or (pt_not (pt_val (pe_callB call_isinst (by rfl) T.n_isinstance PyProof.Rows.boot_isinstance (pa_cons (pv 1) (pa_cons (pe_bltn (v := .ty "tuple") (by rfl) T.n_tuple boot_tuple rfl) pa_nil))))) (pw_or (pt_cmpR op_ne (pe_callB call_len_seq (by rfl) T.n_len PySem.boot_len (pa_cons (pv 1) pa_nil)) pe_int (nomark _)) (pw_or (pt_not (pt_val (pe_fn C_law_whole hr (by rfl) (pa_cons (pe_ix ix_tup (pv 1) pe_int (fun _ _ => rfl)) pa_nil)))) (pw_or1 (pt_not (pt_val (pe_fn C_law_whole hr (by rfl) (pa_cons (pe_ix ix_tup (pv 1) pe_int (fun _ _ => rfl)) pa_nil)))))))))
          (pss_one (ps_ret pe_bl)) pss_nil)))
      (pss_cons (ps_if (pt_cmp (pc_isN (pe_ix ix_tup (pv 0) pe_int (fun _ _ => rfl))))
        (pss_one (ps_ret pe_bl)) pss_nil)
      (pss_one (ps_ret (pe_and (pe_callB call_isinst (by rfl) T.n_isinstance PyProof.Rows.boot_isinstance (pa_cons (pe_ix ix_tup (pv 0) pe_int (fun _ _ => rfl)) (pa_cons (pe_bltn (v := .ty "tuple") (by rfl) T.n_tuple boot_tuple rfl) pa_nil))) (pe_and (pe_cmpR op_eq (pe_callB call_len_seq (by rfl) T.n_len PySem.boot_len (pa_cons (pe_ix ix_tup (pv 0) pe_int (fun _ _ => rfl)) pa_nil)) pe_int (nomark _)) (pe_and (pe_fn C_law_whole hr (by rfl) (pa_cons (pe_ix ix_tup (pe_ix ix_tup (pv 0) pe_int (fun _ _ => rfl)) pe_int (fun _ _ => rfl)) pa_nil)) (pe_one (pe_fn C_law_whole hr (by rfl) (pa_cons (pe_ix ix_tup (pe_ix ix_tup (pv 0) pe_int (fun _ _ => rfl)) pe_int (fun _ _ => rfl)) pa_nil))))))))))), ?_⟩
    refine ⟨_, rfl, _, _, _, _, rfl, .tup hp, kit_same _ _, _, rfl, iteF ?_⟩
    refine ⟨_, rfl, p, _, rfl, .inr (SqT.of hp), rfl, _, rfl, iteNS rfl ?_⟩
    refine ⟨_, rfl, p, _, _, _, rfl, rfl, SqT.of hp, rfl, _, _, _, _, rfl, .tup ht, kit_same _ _, _, rfl, iteF ?_⟩
    refine ⟨_, rfl, p, _, _, _, rfl, rfl, SqT.of hp, rfl, t, rfl, ⟨_, SqT.of ht⟩, for_tup (K := K) (a := t) (xs := vs') (fun i σ H5 => ∃ v1 : Option V, σ = [some (.ref p), v1] ∧ H5 = H)
      ⟨_, rfl, rfl⟩ (fun i σ H5 _ ⟨_, _, e⟩ => by rw [e]; exact SqT.of ht) ?_ ?_⟩
    · rintro i y σ H5 hy ⟨v1, rfl, rfl⟩
      obtain ⟨dd, hdd, td, ey, htd⟩ := Paired.get? hvs hy
      subst ey
      refine ⟨_, rfl, _, _, _, _, rfl, .tup htd, kit_same _ _, _, rfl, iteF ?_⟩
      refine ⟨_, rfl, td, _, rfl, .inr (SqT.of htd), rfl, _, rfl, iteNS rfl ?_⟩
      refine ⟨_, rfl, td, _, _, _, rfl, rfl, SqT.of htd, rfl, _, rfl, _, rfl, iteF ?_⟩
      refine ⟨_, rfl, td, _, _, _, rfl, rfl, SqT.of htd, rfl, _, rfl, _, rfl, iteF ?_⟩
      exact ⟨_, rfl, rfl⟩
    · rintro σ H5 ⟨v1, rfl, rfl⟩
      cases ft with
      | none =>
        have hv : v = .non := hft
        subst hv
        refine ⟨_, rfl, p, _, _, _, rfl, rfl, SqT.of hp, rfl, _, rfl, iteDT rfl ?_⟩
        exact q
      | some f =>
        obtain ⟨tf, etf, htf⟩ := hft
        subst etf
        refine ⟨_, rfl, p, _, _, _, rfl, rfl, SqT.of hp, rfl, _, rfl, iteDF (by intro z; cases z) ?_⟩
        refine ⟨_, rfl, p, _, _, _, rfl, rfl, SqT.of hp, rfl, _, _, _, _, rfl, .tup htf, kit_same _ _, _, rfl, iteT ?_⟩
        refine ⟨_, rfl, p, _, _, _, rfl, rfl, SqT.of hp, rfl, tf, _, rfl, .inr (SqT.of htf), rfl, _, rfl, iteDT rfl ?_⟩
        refine ⟨_, rfl, p, _, _, _, rfl, rfl, SqT.of hp, rfl, tf, _, _, _, rfl, rfl, SqT.of htf, rfl, _, rfl, _, rfl, iteT ?_⟩
        exact ⟨_, rfl, p, _, _, _, rfl, rfl, SqT.of hp, rfl, tf, _, _, _, rfl, rfl, SqT.of htf, rfl, _, rfl, q⟩
theorem eqD_dds {K : PySem.W.Frag} {H : Hp} : ∀ {vs us : List V} {ds : List Dd}, Paired (DdAt H) vs ds → Paired (DdAt H) us ds → Paired (EqD K H 2) vs us
  | _, _, _, .nil, .nil => .nil
  | _, _, _, .cons ⟨a, e1, h1⟩ r1, .cons ⟨b, e2, h2⟩ r2 => .cons (.inr ⟨a, b, _, _, e1, e2, SqT.of h1, SqT.of h2, .cons (.inl ⟨rfl, rfl⟩) (.cons (.inl ⟨rfl, rfl⟩) (.cons (.inl ⟨rfl, rfl⟩) (.cons (.inl ⟨rfl, rfl⟩) .nil)))⟩) (eqD_dds r1 r2)
theorem eqD_ft {K : PySem.W.Frag} {H : Hp} {v u : V} {ft : Option Ft} (h1 : FtAt H v ft) (h2 : FtAt H u ft) : EqD K H 3 v u := by
  cases ft with
  | none =>
    have e1 : v = .non := h1
    have e2 : u = .non := h2
    rw [e1, e2]
    exact .inl ⟨rfl, rfl⟩
  | some f =>
    obtain ⟨a, e1, k1⟩ := h1
    obtain ⟨b, e2, k2⟩ := h2
    exact .inr ⟨a, b, _, _, e1, e2, SqT.of k1, SqT.of k2, .cons (.inl ⟨rfl, rfl⟩) (.cons (.inl ⟨rfl, rfl⟩) (.cons (.inl ⟨rfl, rfl⟩) (.cons (.inl ⟨rfl, rfl⟩) .nil)))⟩
theorem to_setF {i j : Nat} {v w : V} {σ : L2.St} {H : Hp} {X R : TS} {D : Ends} (h : gName j w (σ.set i (some v)) H (Ends.nx ⟨tSeq X R D, D.rt, D.bk, D.ct⟩)) : gName i v σ H (fun σ2 H2 => tSeq (tAsg (tC w) (gName j)) (tSeq X R) D σ2 H2) := h
theorem nm_all : ∀ y ∈ bases, ∀ a ∈ List.range (y.length + 1), ∀ k ∈ List.range 6, NameOk (nmF y ((a : Nat) : Int) (97 + k)) := by decide +kernel
theorem nm22_ok (f : Int) {k : Nat} (hk : k < 6) : NameOk (nm22 f k) := by
  have hy : bs22 f ∈ bases := by
    have : ∀ i : Nat, i < 5 → bases.getD i "" ∈ bases := by decide +kernel
    exact this _ (by omega)
  unfold nm22
  generalize bs22 f = y at hy
  obtain ⟨a, ha, hae⟩ : ∃ a : Nat, a ∈ List.range (y.length + 1) ∧ f / 5 % ((y.length : Int) + 1) = (a : Int) := by
    have h0 : 0 ≤ f / 5 % ((y.length : Int) + 1) := Int.emod_nonneg _ (by omega)
    have h1 : f / 5 % ((y.length : Int) + 1) < (y.length : Int) + 1 := Int.emod_lt_of_pos _ (by omega)
    exact ⟨(f / 5 % ((y.length : Int) + 1)).toNat, by rw [List.mem_range]; omega, by omega⟩
  rw [hae]
  exact nm_all y hy a ha k (List.mem_range.mpr hk)
noncomputable def nmsM (f : Int) (m : Nat) : List Str := (List.range m).map (nm22 f)
theorem nmsM_mem {f : Int} {m k : Nat} (h : k < m) : nm22 f k ∈ nmsM f m := List.mem_map_of_mem (List.mem_range.mpr h)
theorem nmsM_nd (f : Int) (m : Nat) : (nmsM f m).Nodup := List.pairwise_map.mpr (List.Pairwise.imp (fun h e => h (nm22_inj e)) List.nodup_range)
theorem nmsM_snoc (f : Int) (m : Nat) : nmsM f (m + 1) = nmsM f m ++ [nm22 f m] := by unfold nmsM; rw [List.range_succ, List.map_append]; rfl
structure Dr (f : Int) (m : Nat) (ts : List (Int × Th)) : Prop where
  sg : ∀ d ∈ ts, d.1 = 1 ∨ d.1 = -1
  nm : ∀ d ∈ ts, ∀ x, d.2 = .nam x → x ∈ nmsM f m
noncomputable def spTerms : Sp := fun vs H Q _ => ∃ (cl : Addr) (f : Int) (m : Nat) (cs : List Int), vs = [.ref cl, .int f, .int (m : Int)] ∧ H cl = some (.lst (cs.map V.int)) ∧ 1 ≤ cs.length ∧ cs.length ≤ 6 ∧ 1 ≤ m ∧ m ≤ 6 ∧ ∀ (t : Addr) (ts : List (Int × Th)) (H' : Hp), Same H H' → TermsAt H' t ts → Dr f m ts → Q (.ref t) H'
theorem Dr.snoc {f : Int} {m : Nat} {ts : List (Int × Th)} (h : Dr f m ts) {d : Int × Th} (h1 : d.1 = 1 ∨ d.1 = -1) (h2 : ∀ x, d.2 = .nam x → x ∈ nmsM f m) : Dr f m (ts ++ [d]) := by
  refine ⟨fun e he => ?_, fun e he => ?_⟩
  · rcases List.mem_append.mp he with z | z
    · exact h.sg e z
    · rw [List.mem_singleton.mp z]; exact h1
  · rcases List.mem_append.mp he with z | z
    · exact h.nm e z
    · rw [List.mem_singleton.mp z]; exact h2
theorem ok_terms (T : Txt K mg) : L2.Cl P w K mg base 2 "_law_terms" ["_law_cells", "_law_form", "_law_many"] spTerms := by
  have C_law_name := ok_nameL (P := P) (w := w) (base := base) T
  refine Cl.of T.d_law_terms sc_law_terms (fun vs H Q E h => ?_) (fun _ _ _ _ _ _ us hl => len3 us hl (fun _ _ _ => rfl)) (fun fa cdv A outer s H vs Q E hr h => ?_)
  · obtain ⟨cl, f, m, cs, rfl, _⟩ := h
    rfl
  · obtain ⟨cl, f, m, cs, rfl, hcl, hc1, hc2, hm1, hm2, q⟩ := h
    have hu0 := Nat.lt_of_succ_lt (hu_of hr)
    refine ⟨_, (pss_cons (ps_set (i := 3) sc_law_terms.nd rfl (Or.inl rfl) (pe_lst pa_nil))
      (pss_cons (ps_for PassesOwn.never rfl (pi_list (pv 0)) (pg_name (i := 4) sc_law_terms.nd rfl (Or.inl rfl))
        (pss_cons (ps_set (i := 5) sc_law_terms.nd rfl (Or.inl rfl) pe_int)
        (pss_cons (ps_if (PW.pt (pw_and (pt_cmpR (op_neL_nil hu0) (pv 3) (pe_lst pa_nil) (nomark _)) (pw_and1 (pt_cmpR op_eq (pe_op op_mod (pv 4) pe_int) pe_int (nomark _)))))
          (pss_one (ps_set (i := 5) sc_law_terms.nd rfl (Or.inl rfl) (pe_un un_neg pe_int))) pss_nil)
        (pss_one (ps_if (pt_cmpR op_eq (pe_op op_mod (pe_op op_fdiv (pv 4) pe_int) pe_int) pe_int (nomark _))
          (pss_one (ps_expr (pe_bm PySem.F.plainAttrs_list PySem.F.slot_list_append PySem.F.type_list_append mt_append (pv 3) (pa_cons (pe_tup (pa_cons (pv 5) (pa_cons (pe_op op_mod (pe_op op_fdiv (pv 4) pe_int) (pe_op op_pow pe_int pe_int)) pa_nil))) pa_nil)))) (pss_one (ps_expr (pe_bm PySem.F.plainAttrs_list PySem.F.slot_list_append PySem.F.type_list_append mt_append (pv 3) (pa_cons (pe_tup (pa_cons (pv 5) (pa_cons (pe_fn C_law_name hr (by rfl) (pa_cons (pv 1) (pa_cons (pe_op op_mod (pe_op op_fdiv (pv 4) pe_int) (pv 2)) pa_nil))) pa_nil))) pa_nil)))))))))
      (pss_one (ps_ret (pe_callTy call_tuple_of (by rfl) T.n_tuple boot_tuple (pa_cons (pv 3) pa_nil)))))), ?_⟩
    refine ⟨(by show 0 ≤ sizeLine; decide), fun L gL => ?_⟩
    refine ⟨_, rfl, cl, rfl, ⟨_, SqL.of (upd_keep hcl gL)⟩, for_list (K := K) (a := cl) (xs := cs.map V.int) (fun i σ H2 => ∃ (v4 v5 : Option V) (us : List V) (ts : List (Int × Th)), σ = [some (.ref cl), some (.int f), some (.int (m : Int)), some (.ref L), v4, v5] ∧ Same H H2 ∧ H2 L = some (.lst us) ∧ Terms H2 us ts ∧ ts.length = i ∧ Dr f m ts)
      ⟨none, none, [], [], rfl, (Same.refl H).new gL, upd_same, .nil, rfl, ⟨by simp, by simp⟩⟩ (fun i σ H2 _ ⟨_, _, _, _, _, s2, _⟩ => SqL.of (s2 _ _ hcl)) ?_ ?_⟩
    · rintro i y σ H2 hy ⟨v4, v5, us, ts, rfl, s2, hL2, hts, hlen, hdr⟩
      rw [List.getElem?_map] at hy
      obtain ⟨c, hc, rfl⟩ := Option.map_eq_some_iff.mp hy
      have hi : i < cs.length := by
        by_cases z : i < cs.length
        · exact z
        · rw [List.getElem?_eq_none (by omega)] at hc; cases hc
      have hul : us.length = i := by rw [← hlen]; exact Paired.length hts
      refine to_setF ?_
      refine ifs_same True (fun x _ => x = .int 1 ∨ x = .int (-1)) (fun Q hQ => ?_) (fun _ H3 s3 Q hQ => ⟨_, rfl, hQ _ H3 (Same.refl H3) (.inr rfl)⟩) (fun H' s' => .inl rfl) ?_
      · refine ⟨_, rfl, (by show 0 ≤ sizeLine; decide), fun z gz => ⟨L, z, _, rfl, rfl, SqL.of (upd_keep hL2 gz), SqL.of upd_same, _, rfl, ite2 (fun hne => ⟨_, rfl, _, _, rfl, rfl, (by show (0 : Int) < 2; decide), rfl, _, rfl, hQ _ _ ((Same.refl H2).new gz) fun _ => trivial⟩) (fun _ => hQ false _ ((Same.refl H2).new gz) fun _ => trivial)⟩⟩
      rintro sg H3 s3 hsg
      obtain ⟨si, rfl, hsi⟩ : ∃ si : Int, sg = .int si ∧ (si = 1 ∨ si = -1) := by
        rcases hsg with z | z
        · exact ⟨1, z, .inl rfl⟩
        · exact ⟨-1, z, .inr rfl⟩
      have hL3 := s3 _ _ hL2
      refine ⟨_, rfl, _, _, rfl, rfl, ⟨by decide, by decide⟩, _, _, rfl, rfl, (by show (0 : Int) < 4; decide), rfl, _, rfl, ite2 (fun _ => ?_) (fun _ => ?_)⟩
      · refine ⟨_, rfl, .inl ⟨rfl, _, SqL.of hL3⟩, _, rfl, _, rfl, _, _, rfl, rfl, ⟨by decide, by decide⟩, _, _, rfl, rfl, ⟨by decide, by decide, by decide⟩, _, _, rfl, rfl, (by show (0 : Int) < 10 ^ (60 : Int).toNat; decide), (by show 2 ≤ sizeLine; decide), fun p gp => ?_⟩
        have s4 : Same H3 (upd H3 p (.tup [.int si, .int (c / 8 % 10 ^ (60 : Int).toNat)])) := (Same.refl H3).new gp
        have hp4 : upd H3 p (.tup [.int si, .int (c / 8 % 10 ^ (60 : Int).toNat)]) p = some (.tup [.int si, .int (c / 8 % 10 ^ (60 : Int).toNat)]) := upd_same
        have hn : 0 ≤ c / 8 % 10 ^ (60 : Int).toNat ∧ c / 8 % 10 ^ (60 : Int).toNat < 10 ^ 60 := ⟨Int.emod_nonneg _ (by decide), Int.emod_lt_of_pos _ (by decide)⟩
        refine ⟨L, _, _, rfl, rfl, s4 _ _ hL3, small1000 (by omega), ?_⟩
        have T5 := Tups.lst (ys := us ++ [.ref p]) (s4 _ _ hL3)
        refine ⟨_, _, us ++ [.ref p], ts ++ [(si, .num (c / 8 % 10 ^ (60 : Int).toNat))], rfl, ((s2.trans s3).trans s4).put gL, upd_same, Paired.snoc (Paired.mapP hts fun _ _ z => z.mono ((s3.trans s4).tups.trans T5)) (show TermAt _ (.ref p) (si, .num (c / 8 % 10 ^ (60 : Int).toNat)) from ⟨p, rfl, T5 _ _ hp4, hn⟩), by rw [List.length_append, hlen]; rfl, hdr.snoc hsi fun x e => by cases e⟩
      · refine ⟨_, rfl, .inl ⟨rfl, _, SqL.of hL3⟩, _, rfl, _, rfl, _, rfl, _, _, rfl, rfl, ⟨by decide, by decide⟩, _, rfl, _, _, rfl, rfl, (by show (0 : Int) < (m : Int); omega), ?_⟩
        obtain ⟨k, hk, ek⟩ : ∃ k : Nat, k < m ∧ c / 8 % (m : Int) = (k : Int) := by
          have h0 : 0 ≤ c / 8 % (m : Int) := Int.emod_nonneg _ (by omega)
          have h1 : c / 8 % (m : Int) < (m : Int) := Int.emod_lt_of_pos _ (by omega)
          exact ⟨(c / 8 % (m : Int)).toNat, by omega, by omega⟩
        refine ⟨f, k, (by show [V.int f, V.int (c / 8 % (m : Int))] = _; rw [ek]), by omega, fun H4 s4 => ⟨(by show 2 ≤ sizeLine; decide), fun p gp => ?_⟩⟩
        have s5 : Same H3 (upd H4 p (.tup [.int si, .str (nm22 f k)])) := s4.new gp
        have hp5 : upd H4 p (.tup [.int si, .str (nm22 f k)]) p = some (.tup [.int si, .str (nm22 f k)]) := upd_same
        generalize upd H4 p (.tup [.int si, .str (nm22 f k)]) = H5 at s5 hp5 ⊢
        refine ⟨L, _, _, rfl, rfl, s5 _ _ hL3, small1000 (by omega), ?_⟩
        have T5 := Tups.lst (ys := us ++ [.ref p]) (s5 _ _ hL3)
        refine ⟨_, _, us ++ [.ref p], ts ++ [(si, .nam (nm22 f k))], rfl, ((s2.trans s3).trans s5).put gL, upd_same, Paired.snoc (Paired.mapP hts fun _ _ z => z.mono ((s3.trans s5).tups.trans T5)) (show TermAt _ (.ref p) (si, .nam (nm22 f k)) from ⟨p, rfl, T5 _ _ hp5, nm22_ok f (by omega)⟩), by rw [List.length_append, hlen]; rfl, hdr.snoc hsi fun x e => by cases e; exact nmsM_mem hk⟩
    · rintro σ H2 ⟨v4, v5, us, ts, rfl, s2, hL2, hts, hlen, hdr⟩
      rw [List.length_map] at hlen
      refine ⟨_, rfl, L, _, rfl, .inl ⟨SqL.of hL2, fun t gt => ?_⟩⟩
      have s3 : Same H2 (upd H2 t (.tup us)) := (Same.refl H2).new gt
      exact q t ts _ (s2.trans s3) ⟨⟨us, upd_same, Paired.mapP hts fun _ _ z => z.mono s3.tups⟩, by omega, by omega⟩ hdr
theorem cut_row (ns : List Int) (n : Nat) (hn : 1 ≤ n) (hn2 : n ≤ 6) : ∃ cs : List Int, cutV (cutV (ns.map V.int) (some 6) (some 12) ++ [.int 8, .int 13]) none (some ((n : Nat) : Int)) = cs.map V.int ∧ 1 ≤ cs.length ∧ cs.length ≤ 6 := by
  have e1 : cutV (ns.map V.int) (some 6) (some 12) ++ [.int 8, .int 13] = ((ns.drop (min 6 (ns.map V.int).length)).take (min 12 (ns.map V.int).length - min 6 (ns.map V.int).length) ++ [8, 13]).map V.int := by
    unfold cutV
    rw [show (some (6 : Int)) = some ((6 : Nat) : Int) from rfl, show (some (12 : Int)) = some ((12 : Nat) : Int) from rfl, HT.sIx_nat, HT.sIx_nat, List.map_append, List.map_take, List.map_drop]
    rfl
  rw [e1]
  generalize (ns.drop (min 6 (ns.map V.int).length)).take (min 12 (ns.map V.int).length - min 6 (ns.map V.int).length) = l
  refine ⟨(l ++ [8, 13]).take (min n ((l ++ [8, 13]).map V.int).length), ?_, ?_, ?_⟩
  · unfold cutV
    rw [HT.sIx_none, HT.sIx_nat, List.drop_zero, Nat.sub_zero, List.map_take]
  · rw [List.length_take, List.length_map, List.length_append]; simp; omega
  · rw [List.length_take]; omega
inductive Row22 (f : Int) (m : Nat) : Rw → Prop where
  | set (ts : List (Int × Th)) : Dr f (m + 1) ts → Row22 f m (.set (nm22 f m) ts)
  | say (ts : List (Int × Th)) (w : Option Str) : Dr f m ts → (∀ x, w = some x → x ∈ nmsM f m) → Row22 f m (.say ts w)
  | ask (w : Option Str) : (∀ x, w = some x → x ∈ nmsM f m) → Row22 f m (.ask "other" w)
  | need (ts : List (Int × Th)) : Dr f m ts → Row22 f m (.need ts)
noncomputable def spRow22 (K : PySem.W.Frag) : Sp := fun vs H Q _ => ∃ (a : Addr) (sc : List Int) (f : Int) (m : Nat), vs = [.ref a, .int f, .int (m : Int)] ∧ SqL K H a (sc.map V.int) ∧ 1 ≤ m ∧ m ≤ 5 ∧ ∀ (r : Addr) (rw : Rw) (H' : Hp), Same H H' → RowAt H' r rw → Row22 f m rw → Q (.ref r) H'
noncomputable def WhJ (X : List Str) (x : V) (_ : Hp) : Prop := ∃ w : Option Str, x = optV w ∧ ∀ y, w = some y → y ∈ X
theorem ok_row22 (T : Txt K mg) : L2.Cl P w K mg base 3 "_law_row" ["_law_script", "_law_form", "_law_many"] (spRow22 K) := by
  have C_law_cell_at := ok_cell (P := P) (w := w) (base := base) T
  have C_law_name := ok_nameL (P := P) (w := w) (base := base) T
  have C_law_terms := ok_terms (P := P) (w := w) (base := base) T
  refine Cl.of T.d_law_row sc_law_row (fun vs H Q E h => ?_) (fun _ _ _ _ _ _ us hl => len3 us hl (fun _ _ _ => rfl)) (fun fa cdv A outer s H vs Q E hr h => ?_)
  · obtain ⟨a, sc, f, m, rfl, _⟩ := h
    rfl
  · obtain ⟨a, sc, f, m, rfl, hS, hm1, hm2, q⟩ := h
    refine ⟨_, (pss_cons (ps_set (i := 3) sc_law_row.nd rfl (Or.inl rfl) (pe_op op_mod (pe_fn C_law_cell_at hr (by rfl) (pa_cons (pv 0) (pa_cons pe_int pa_nil))) pe_int))
      (pss_cons (ps_set (i := 4) sc_law_row.nd rfl (Or.inl rfl) (pe_fn C_law_terms hr (by rfl) (pa_cons (pe_slice sl_list (pe_op op_cat (pe_slice sl_list (pv 0) (po_some pe_int) (po_some pe_int)) (pe_lst (pa_cons pe_int (pa_cons pe_int pa_nil)))) po_none (po_some (pe_op op_add pe_int (pe_op op_mod (pe_fn C_law_cell_at hr (by rfl) (pa_cons (pv 0) (pa_cons pe_int pa_nil))) pe_int)))) (pa_cons (pv 1) (pa_cons (pe_op op_add (pv 2) (pe_callTy call_int1 (by rfl) T.n_int boot_int (pa_cons (pe_cmpR op_eq (pv 3) pe_int (nomark _)) pa_nil))) pa_nil)))))
      (pss_cons (ps_set (i := 5) sc_law_row.nd rfl (Or.inl rfl) pe_non)
      (pss_cons (ps_if (pt_cmpR op_gt (pe_op op_mod (pe_fn C_law_cell_at hr (by rfl) (pa_cons (pv 0) (pa_cons pe_int pa_nil))) pe_int) pe_int (nomark _))
        (pss_one (ps_set (i := 5) sc_law_row.nd rfl (Or.inl rfl) (pe_fn C_law_name hr (by rfl) (pa_cons (pv 1) (pa_cons (pe_op op_mod (pe_op op_fdiv (pe_fn C_law_cell_at hr (by rfl) (pa_cons (pv 0) (pa_cons pe_int pa_nil))) pe_int) (pv 2)) pa_nil))))) pss_nil)
      (pss_cons (ps_if (pt_cmpR op_eq (pv 3) pe_int (nomark _))
        (pss_one (ps_ret (pe_tup (pa_cons pe_str (pa_cons (pe_fn C_law_name hr (by rfl) (pa_cons (pv 1) (pa_cons (pv 2) pa_nil))) (pa_cons (pv 4) pa_nil)))))) pss_nil)
      (pss_cons (ps_if (pt_cmpR op_eq (pv 3) pe_int (nomark _))
        (pss_one (ps_ret (pe_tup (pa_cons pe_str (pa_cons (pv 4) (pa_cons (pv 5) pa_nil)))))) pss_nil)
      (pss_cons (ps_if (pt_cmpR op_eq (pv 3) pe_int (nomark _))
        (pss_one (ps_ret (pe_tup (pa_cons pe_str (pa_cons pe_str (pa_cons (pv 5) pa_nil)))))) pss_nil)
      (pss_one (ps_ret (pe_tup (pa_cons pe_str (pa_cons (pv 4) pa_nil)))))))))))), ?_⟩
    refine ⟨_, rfl, a, sc, 1, rfl, hS, by decide, fun c1 => ⟨_, _, rfl, rfl, (by show (0 : Int) < 4; decide), ?_⟩⟩
    have hk0 : 0 ≤ c1 % 4 ∧ c1 % 4 < 4 := by omega
    generalize hkd : c1 % 4 = kd at hk0
    show gName 3 (.int (c1 % 4)) _ H _
    rw [hkd]
    refine ⟨_, rfl, _, rfl, _, rfl, a, _, rfl, hS, fun l1 g1 => ?_⟩
    have s1 : Same H (upd H l1 (.lst (cutV (sc.map V.int) (some 6) (some 12)))) := (Same.refl H).new g1
    have h11 : upd H l1 (.lst (cutV (sc.map V.int) (some 6) (some 12))) l1 = some (.lst (cutV (sc.map V.int) (some 6) (some 12))) := upd_same
    generalize upd H l1 (.lst (cutV (sc.map V.int) (some 6) (some 12))) = H1 at s1 h11 ⊢
    refine ⟨(by show 2 ≤ sizeLine; decide), fun l2 g2 => ?_⟩
    have s2 : Same H1 (upd H1 l2 (.lst [.int 8, .int 13])) := (Same.refl H1).new g2
    have h22 : upd H1 l2 (.lst [.int 8, .int 13]) l2 = some (.lst [.int 8, .int 13]) := upd_same
    generalize upd H1 l2 (.lst [.int 8, .int 13]) = H2 at s2 h22 ⊢
    have hcl : (cutV (sc.map V.int) (some 6) (some 12)).length ≤ 6 := by
      unfold cutV
      rw [show (some (6 : Int)) = some ((6 : Nat) : Int) from rfl, show (some (12 : Int)) = some ((12 : Nat) : Int) from rfl, HT.sIx_nat, HT.sIx_nat, List.length_take]
      omega
    refine ⟨l1, l2, _, _, rfl, rfl, s2 _ _ h11, h22, Nat.le_of_lt (small1000 (by show _ + 2 ≤ 1000; omega)), fun l3 g3 => ?_⟩
    have s3 : Same H2 (upd H2 l3 (.lst (cutV (sc.map V.int) (some 6) (some 12) ++ [.int 8, .int 13]))) := (Same.refl H2).new g3
    have h33 : upd H2 l3 (.lst (cutV (sc.map V.int) (some 6) (some 12) ++ [.int 8, .int 13])) l3 = some (.lst (cutV (sc.map V.int) (some 6) (some 12) ++ [.int 8, .int 13])) := upd_same
    generalize upd H2 l3 (.lst (cutV (sc.map V.int) (some 6) (some 12) ++ [.int 8, .int 13])) = H3 at s3 h33 ⊢
    have s03 := (s1.trans s2).trans s3
    refine ⟨_, rfl, a, sc, 3, rfl, s03.seq hS, by decide, fun c3 => ⟨_, _, rfl, rfl, (by show (0 : Int) < 6; decide), _, _, rfl, rfl, _, rfl, ?_⟩⟩
    obtain ⟨n, hn1, hn2, en⟩ : ∃ n : Nat, 1 ≤ n ∧ n ≤ 6 ∧ 1 + c3 % 6 = (n : Int) := ⟨(1 + c3 % 6).toNat, by omega, by omega, by omega⟩
    obtain ⟨cs, ecs, hcs1, hcs2⟩ := cut_row sc n hn1 hn2
    refine ⟨l3, _, rfl, SqL.of h33, fun l4 g4 => ?_⟩
    have s4 : Same H3 (upd H3 l4 (.lst (cutV (cutV (sc.map V.int) (some 6) (some 12) ++ [.int 8, .int 13]) none (some (1 + c3 % 6))))) := (Same.refl H3).new g4
    have h44 : upd H3 l4 (.lst (cutV (cutV (sc.map V.int) (some 6) (some 12) ++ [.int 8, .int 13]) none (some (1 + c3 % 6)))) l4 = some (.lst (cs.map V.int)) := by rw [upd_same, en, ecs]
    generalize upd H3 l4 (.lst (cutV (cutV (sc.map V.int) (some 6) (some 12) ++ [.int 8, .int 13]) none (some (1 + c3 % 6)))) = H4 at s4 h44 ⊢
    have s04 := s03.trans s4
    have em : ((m : Nat) : Int) + (if decide (V.int kd = V.int 0) = true then 1 else 0) = ((if kd = 0 then m + 1 else m : Nat) : Int) := by
      by_cases h : kd = 0
      · rw [if_pos h, if_pos (by rw [h]; exact decide_eq_true rfl)]; omega
      · rw [if_neg h, if_neg (by rw [decide_eq_false (fun z => h (V.int.inj z))]; exact Bool.false_ne_true)]; omega
    refine ⟨_, rfl, _, rfl, _, rfl, rfl, .inr ⟨_, rfl, _, _, rfl, rfl, l4, f, (if kd = 0 then m + 1 else m), cs, (by show [V.ref l4, V.int f, V.int (((m : Nat) : Int) + (if decide (V.int kd = V.int 0) = true then 1 else 0))] = _; rw [em]), h44, hcs1, hcs2, (by split <;> omega), (by split <;> omega), fun t ts H5 s5 hts hdr => ?_⟩⟩
    have s05 := s04.trans s5
    refine to_set ?_
    refine ifs_same True (WhJ (nmsM f m)) (fun Q hQ => ⟨_, rfl, a, sc, 4, rfl, s05.seq hS, by decide, fun c4 => ⟨_, _, rfl, rfl, (by show (0 : Int) < 3; decide), _, _, rfl, rfl, _, rfl, hQ _ H5 (Same.refl H5) fun _ => trivial⟩⟩) (fun _ H6 s6 Q hQ => ?_) (fun H' s' => ⟨none, rfl, fun y z => by cases z⟩) ?_
    · refine ⟨_, rfl, _, rfl, a, sc, 4, rfl, (s05.trans s6).seq hS, by decide, fun c4 => ⟨_, _, rfl, rfl, ⟨by decide, by decide⟩, _, rfl, _, _, rfl, rfl, (by show (0 : Int) < (m : Int); omega), ?_⟩⟩
      obtain ⟨k, hk, ek⟩ : ∃ k : Nat, k < m ∧ c4 / 3 % (m : Int) = (k : Int) := by
        have h0 : 0 ≤ c4 / 3 % (m : Int) := Int.emod_nonneg _ (by omega)
        have h1 : c4 / 3 % (m : Int) < (m : Int) := Int.emod_lt_of_pos _ (by omega)
        exact ⟨(c4 / 3 % (m : Int)).toNat, by omega, by omega⟩
      exact ⟨f, k, (by show [V.int f, V.int (c4 / 3 % (m : Int))] = _; rw [ek]), by omega, fun H7 s7 => hQ _ H7 s7 ⟨some (nm22 f k), rfl, fun y e => by cases e; exact nmsM_mem hk⟩⟩
    rintro x H6 s6 ⟨wn, rfl, hwn⟩
    have s06 := s05.trans s6
    have hts6 := hts.mono s6.tups
    refine ⟨_, rfl, rfl, _, rfl, ite2 (fun h0 => ?_) (fun h0 => ?_)⟩
    · have hk0 : kd = 0 := V.int.inj (of_decide_eq_true h0)
      rw [if_pos hk0] at hdr
      refine ⟨_, rfl, _, rfl, f, m, rfl, by omega, fun H7 s7 => ⟨_, rfl, (by show 3 ≤ sizeLine; decide), fun r gr => ?_⟩⟩
      have s8 : Same H6 (upd H7 r (.tup [.str "set", .str (nm22 f m), .ref t])) := s7.new gr
      exact q r (.set (nm22 f m) ts) _ (s06.trans s8) ⟨t, upd_same, hts6.mono s8.tups⟩ (.set ts hdr)
    have hkn : ¬ kd = 0 := fun z => h0 (by rw [z]; exact decide_eq_true rfl)
    rw [if_neg hkn] at hdr
    refine ⟨_, rfl, rfl, _, rfl, ite2 (fun _ => ?_) (fun _ => ?_)⟩
    · refine ⟨_, rfl, _, rfl, (by show 3 ≤ sizeLine; decide), fun r gr => ?_⟩
      have s8 : Same H6 (upd H6 r (.tup [.str "say", .ref t, optV wn])) := (Same.refl H6).new gr
      exact q r (.say ts wn) _ (s06.trans s8) ⟨t, upd_same, hts6.mono s8.tups⟩ (.say ts wn hdr hwn)
    refine ⟨_, rfl, rfl, _, rfl, ite2 (fun _ => ?_) (fun _ => ?_)⟩
    · refine ⟨_, rfl, (by show 3 ≤ sizeLine; decide), fun r gr => ?_⟩
      exact q r (.ask "other" wn) _ (s06.new gr) upd_same (.ask wn hwn)
    · refine ⟨_, rfl, (by show 2 ≤ sizeLine; decide), fun r gr => ?_⟩
      have s8 : Same H6 (upd H6 r (.tup [.str "need", .ref t])) := (Same.refl H6).new gr
      exact q r (.need ts) _ (s06.trans s8) ⟨t, upd_same, hts6.mono s8.tups⟩ (.need ts hdr)
noncomputable def thW (kvs : List (Key × V)) : Th → Int
  | .num n => n
  | .nam x => ivl (valV kvs (Sum.inr x))
noncomputable def totW (kvs : List (Key × V)) (ts : List (Int × Th)) : Int := ts.foldl (fun a d => a + d.1 * thW kvs d.2) 0
theorem totW_snoc (kvs : List (Key × V)) (ts : List (Int × Th)) (d : Int × Th) : totW kvs (ts ++ [d]) = totW kvs ts + d.1 * thW kvs d.2 := by unfold totW; rw [List.foldl_append]; rfl
noncomputable def spTotal : Sp := fun vs H Q _ => ∃ (t va : Addr) (ts : List (Int × Th)) (kvs : List (Key × V)), vs = [.ref t, .ref va] ∧ TermsAt H t ts ∧ H va = some (.dK kvs) ∧ (∀ d ∈ ts, d.1 = 1 ∨ d.1 = -1) ∧ (∀ d ∈ ts, ∀ x, d.2 = .nam x → ∃ i : Int, valV kvs (Sum.inr x) = some (.int i)) ∧ Q (.int (totW kvs ts)) H
theorem ok_total (T : Txt K mg) : L2.Cl P w K mg base 1 "_law_total" ["_law_terms_here", "_law_values"] spTotal := by
  refine Cl.of T.d_law_total sc_law_total (fun vs H Q E h => ?_) (fun _ _ _ _ _ _ us hl => len2 us hl (fun _ _ => rfl)) (fun fa cdv A outer s H vs Q E hr h => ?_)
  · obtain ⟨t, va, ts, kvs, rfl, _⟩ := h
    rfl
  · obtain ⟨t, va, ts, kvs, rfl, ⟨⟨vs, ht, hts⟩, lo, hi⟩, hva, hsg, hk, q⟩ := h
    have hu := hu_of hr
    have hvl : vs.length = ts.length := Paired.length hts
    refine ⟨_, (pss_cons (ps_set (i := 2) sc_law_total.nd rfl (Or.inl rfl) pe_int)
      (pss_cons (ps_for PassesOwn.never rfl (pi_tup (pv 0)) (pg_tup rfl (pgs_cons (pg_name (i := 3) sc_law_total.nd rfl (Or.inl rfl)) (pgs_cons (pg_name (i := 4) sc_law_total.nd rfl (Or.inl rfl)) pgs_nil)))
        (pss_one (ps_if (pt_val (pe_callB call_isinst (by rfl) T.n_isinstance PyProof.Rows.boot_isinstance (pa_cons (pv 4) (pa_cons (pe_bltn (v := .ty "str") (by rfl) T.n_str boot_str rfl) pa_nil))))
          (pss_one (ps_set (i := 2) sc_law_total.nd rfl (Or.inl rfl) (pe_op op_add (pv 2) (pe_op op_mul (pv 3) (pe_dget hu (pv 1) (pv 4) (fun _ _ => rfl)))))) (pss_one (ps_set (i := 2) sc_law_total.nd rfl (Or.inl rfl) (pe_op op_add (pv 2) (pe_op op_mul (pv 3) (pv 4))))))))
      (pss_one (ps_ret (pv 2))))), ?_⟩
    refine ⟨_, rfl, t, rfl, ⟨_, SqT.of ht⟩, for_tup (K := K) (a := t) (xs := vs) (fun i σ H2 => ∃ v3 v4 : Option V, σ = [some (.ref t), some (.ref va), some (.int (totW kvs (ts.take i))), v3, v4] ∧ H2 = H)
      ⟨none, none, rfl, rfl⟩ (fun i σ H2 _ ⟨_, _, _, e⟩ => by rw [e]; exact SqT.of ht) ?_ ?_⟩
    · rintro i y σ H2 hy ⟨v3, v4, rfl, rfl⟩
      obtain ⟨tm, htm, tp, ep, htp, hok⟩ := Paired.get? hts hy
      subst ep
      have hmem := List.mem_of_getElem? htm
      have h1 := hsg tm hmem
      refine ⟨tp, _, rfl, SqT.of htp, rfl, _, _, rfl, _, _, rfl, rfl, ?_⟩
      obtain ⟨si, th⟩ := tm
      cases th with
      | num n =>
        refine ⟨_, rfl, _, _, _, _, rfl, .int n, kit_int_str _, _, rfl, iteF ?_⟩
        refine ⟨_, rfl, _, rfl, _, rfl, _, _, rfl, rfl, .inl ⟨by have h1' : si = 1 ∨ si = -1 := h1; omega, by have h1' : si = 1 ∨ si = -1 := h1; omega⟩, _, _, rfl, rfl, ?_⟩
        refine ⟨some (.int si), some (.int n), ?_, rfl⟩
        rw [take_succ_get htm, totW_snoc]
        rfl
      | nam x =>
        obtain ⟨i', hi'⟩ := hk _ hmem x rfl
        have hg : DGet H2 va (.str x) (some (.int i')) := by
          have := DGet.k (k := Sum.inr x) hva
          rw [hi'] at this
          exact this
        refine ⟨_, rfl, _, _, _, _, rfl, .str x, kit_same _ _, _, rfl, iteT ?_⟩
        refine ⟨_, rfl, _, rfl, _, rfl, _, rfl, va, .int i', rfl, hg, _, _, rfl, rfl, .inl ⟨by have h1' : si = 1 ∨ si = -1 := h1; omega, by have h1' : si = 1 ∨ si = -1 := h1; omega⟩, _, _, rfl, rfl, ?_⟩
        refine ⟨some (.int si), some (.str x), ?_, rfl⟩
        rw [take_succ_get htm, totW_snoc]
        show _ = [_, _, some (V.int (totW kvs (ts.take i) + si * ivl (valV kvs (Sum.inr x)))), _, _]
        rw [hi']
        rfl
    · rintro σ H2 ⟨v3, v4, rfl, rfl⟩
      rw [hvl, List.take_length]
      exact ⟨_, rfl, q⟩
noncomputable def nmW (k : Int) (ts : List (Int × Th)) : List (Int × Option Str) := (L2.namesOf k ts).map fun e => (e.1, some e.2)
noncomputable def wdsW : Rw → List (Int × Option Str)
  | .ask _ w => [(3, w)]
  | .say ts w => (2 * (ts.length : Int) + 1, w) :: nmW 1 ts
  | .set _ ts => nmW 3 ts
  | .need ts => nmW 1 ts
  | _ => []
noncomputable def WdAt (H : Hp) (v : V) (d : Int × Option Str) : Prop := ∃ p, v = .ref p ∧ H p = some (.tup [.int d.1, optV d.2])
theorem WdAt.mono {H H' : Hp} (s : Tups H H') {v : V} {d : Int × Option Str} (h : WdAt H v d) : WdAt H' v d := by
  obtain ⟨p, e, h⟩ := h
  exact ⟨p, e, s _ _ h⟩
theorem namesOf_app : ∀ (ts us : List (Int × Th)) (k : Int), L2.namesOf k (ts ++ us) = L2.namesOf k ts ++ L2.namesOf (k + 2 * (ts.length : Int)) us
  | [], us, k => by simp [L2.namesOf]
  | (s, .num n) :: ts, us, k => by
    have ih := namesOf_app ts us (k + 2)
    show L2.namesOf (k + 2) (ts ++ us) = L2.namesOf (k + 2) ts ++ _
    rw [ih, List.length_cons]
    congr 2
    omega
  | (s, .nam x) :: ts, us, k => by
    have ih := namesOf_app ts us (k + 2)
    show (k, x) :: L2.namesOf (k + 2) (ts ++ us) = (k, x) :: L2.namesOf (k + 2) ts ++ _
    rw [ih, List.length_cons, List.cons_append]
    congr 3
    omega
theorem nmW_num (k : Int) (ts : List (Int × Th)) (s n : Int) : nmW k (ts ++ [(s, .num n)]) = nmW k ts := by
  unfold nmW
  rw [namesOf_app]
  simp [L2.namesOf]
theorem nmW_nam (k : Int) (ts : List (Int × Th)) (s : Int) (x : Str) : nmW k (ts ++ [(s, .nam x)]) = nmW k ts ++ [(k + 2 * (ts.length : Int), some x)] := by
  unfold nmW
  rw [namesOf_app]
  simp [L2.namesOf]
noncomputable def spWords : Sp := fun vs H Q _ => ∃ (r : Addr) (rw : Rw) (f : Int) (m : Nat), vs = [.ref r] ∧ RowAt H r rw ∧ Row22 f m rw ∧ ∀ (l : Addr) (us : List V) (H' : Hp), Same H H' → H' l = some (.lst us) → Paired (WdAt H') us (wdsW rw) → Q (.ref l) H'
theorem ok_words (T : Txt K mg) : L2.Cl P w K mg base 1 "_law_words" ["_law_row_here"] spWords := by
  refine Cl.of T.d_law_words sc_law_words (fun vs H Q E h => ?_) (fun _ _ _ _ _ _ us hl => len1 us hl (fun _ => rfl)) (fun fa cdv A outer s H vs Q E hr h => ?_)
  · obtain ⟨r, rw, f, m, rfl, _⟩ := h
    rfl
  · obtain ⟨r, rw, f, m, rfl, hra, hR, q⟩ := h
    refine ⟨_, (pss_cons (ps_if (pt_cmpR op_eq (pe_ix ix_tup (pv 0) pe_int (fun _ _ => rfl)) pe_str (nomark _))
        (pss_one (ps_ret (pe_lst (pa_cons (pe_tup (pa_cons pe_int (pa_cons (pe_ix ix_tup (pv 0) pe_int (fun _ _ => rfl)) pa_nil))) pa_nil)))) pss_nil)
      (pss_cons (ps_set (i := 1) sc_law_words.nd rfl (Or.inr rfl) (pe_ix ix_tup (pv 0) pe_int (fun _ _ => rfl)))
      (pss_cons (ps_set (i := 2) sc_law_words.nd rfl (Or.inr rfl) pe_int)
      (pss_cons (ps_if (pt_cmpR op_eq (pe_ix ix_tup (pv 0) pe_int (fun _ _ => rfl)) pe_str (nomark _))
        (pss_cons (ps_set (i := 1) sc_law_words.nd rfl (Or.inr rfl) (pe_ix ix_tup (pv 0) pe_int (fun _ _ => rfl)))
        (pss_one (ps_set (i := 2) sc_law_words.nd rfl (Or.inr rfl) pe_int))) pss_nil)
      (pss_cons (ps_setC (j := 3) (M := ["_law_k", "_law_first", "_law_terms_here"]) (ρ := [none, some 2, some 1]) (defScope s_law_words) ["_law_row_here", "_law_terms_here", "_law_first", "_law_found"] ⟨rfl, by decide +kernel, by decide +kernel, by decide +kernel, rfl, by decide +kernel, by decide +kernel⟩ sc_law_words.nd rfl (Or.inl rfl) (pi_range1 (by rfl) T.n_range (pa_cons (pe_callB call_len_seq (by rfl) T.n_len PySem.boot_len (pa_cons (pv 1) pa_nil)) pa_nil)) (fun _ _ _ _ _ _ => (pg_name (i := 0) (show (["_law_k", "_law_first", "_law_terms_here"] : List Str).Nodup by decide +kernel) rfl (Or.inl rfl))) (fun _ _ _ _ _ _ => (pts_one (pt_val (pe_callB (call_isinstK (K := K) rfl) (by rfl) T.n_isinstance PyProof.Rows.boot_isinstance (pa_cons (pe_ix (ix_tupK (K := K) rfl) (pe_ix (ix_tupK (K := K) rfl) (pv 2) (pv 0) (fun _ _ => rfl)) pe_int (fun _ _ => rfl)) (pa_cons (pe_bltn (v := .ty "str") (by rfl) T.n_str boot_str rfl) pa_nil)))))) (fun _ _ _ _ _ _ => (pe_tup (pa_cons (pe_op op_add (pv 1) (pe_op op_mul pe_int (pv 0))) (pa_cons (pe_ix (ix_tupK (K := K) rfl) (pe_ix (ix_tupK (K := K) rfl) (pv 2) (pv 0) (fun _ _ => rfl)) pe_int (fun _ _ => rfl)) pa_nil)))))
      (pss_cons (ps_if (pt_cmpR op_eq (pe_ix ix_tup (pv 0) pe_int (fun _ _ => rfl)) pe_str (nomark _))
        (pss_one (ps_ret (pe_op op_cat (pe_lst (pa_cons (pe_tup (pa_cons (pe_op op_add (pe_op op_mul pe_int (pe_callB call_len_seq (by rfl) T.n_len PySem.boot_len (pa_cons (pv 1) pa_nil))) pe_int) (pa_cons (pe_ix ix_tup (pv 0) pe_int (fun _ _ => rfl)) pa_nil))) pa_nil)) (pv 3)))) pss_nil)
      (pss_one (ps_ret (pv 3))))))))), ?_⟩
    cases hR with
    | ask w hw =>
      have hrt : H r = some (.tup [.str "ask", .str "other", optV w]) := hra
      refine ⟨_, rfl, r, _, _, _, rfl, rfl, SqT.of ((Same.refl H) _ _ hrt), atI_nat (j := 0) rfl, rfl, _, rfl, iteSE ?_⟩
      refine ⟨_, rfl, r, _, _, _, rfl, rfl, SqT.of ((Same.refl H) _ _ hrt), atI_nat (j := 2) rfl, (by show 2 ≤ sizeLine; decide), fun p gp => ⟨(by show 1 ≤ sizeLine; decide), fun l gl => ?_⟩⟩
      have s2 : Same H (upd (upd H p (.tup [.int 3, optV w])) l (.lst [.ref p])) := ((Same.refl H).new gp).new gl
      exact q l [.ref p] _ s2 upd_same (.cons ⟨p, rfl, upd_keep upd_same gl⟩ .nil)
    | set ts hd =>
      obtain ⟨t, hrt, hts⟩ := hra
      refine ⟨_, rfl, r, _, _, _, rfl, rfl, SqT.of ((Same.refl H) _ _ hrt), atI_nat (j := 0) rfl, rfl, _, rfl, iteSN (by decide +kernel) ?_⟩
      refine ⟨_, rfl, r, _, _, _, rfl, rfl, SqT.of ((Same.refl H) _ _ hrt), atI_nat (j := 1) rfl, ?_⟩
      refine ⟨_, rfl, r, _, _, _, rfl, rfl, SqT.of ((Same.refl H) _ _ hrt), atI_nat (j := 0) rfl, rfl, _, rfl, iteSE ?_⟩
      refine ⟨_, rfl, r, _, _, _, rfl, rfl, SqT.of ((Same.refl H) _ _ hrt), atI_nat (j := 2) rfl, ?_⟩
      obtain ⟨⟨vs, htv, htsP⟩, lo, hi⟩ := hts
      have hvl : vs.length = ts.length := Paired.length htsP
      refine ⟨_, rfl, t, _, rfl, .inr (SqT.of htv), _, rfl, (by omega), (by omega), fun D gD => ?_⟩
      refine comp_by vs.length (fun i σ H2 => ∃ (v0 : Option V) (us : List V), σ = [v0, some (.int 3), some (.ref t)] ∧ Same H H2 ∧ H2 D = some (.lst us) ∧ Paired (WdAt H2) us (nmW 3 (ts.take i)) ∧ us.length ≤ i) ⟨_, [], rfl, (Same.refl H).new gD, upd_same, .nil, Nat.le_refl _⟩ ?_ ?_
      · rintro i σ H2 hi' ⟨v0, us, rfl, s2, hD2, hus, hul⟩
        refine ⟨hi', ?_⟩
        rintro x H3 ⟨rfl, rfl⟩
        obtain ⟨y, hy⟩ : ∃ y, vs[i]? = some y := ⟨vs[i], List.getElem?_eq_getElem hi'⟩
        obtain ⟨tm, htm, p, ep, hp, hok⟩ := Paired.get? htsP hy
        subst ep
        have hil : (ts.take i).length = i := by rw [List.length_take]; omega
        have ht2 := s2 _ _ htv
        have hp2 := s2 _ _ hp
        obtain ⟨si, th⟩ := tm
        rw [Int.zero_add]
        cases th with
        | num n =>
          refine ⟨_, rfl, _, rfl, t, _, _, _, rfl, rfl, SqT.of ht2, atI_nat hy, p, _, _, _, rfl, rfl, SqT.of hp2, atI_nat (j := 1) rfl, _, _, _, _, rfl, .int n, kit_int_str _, _, rfl, iteF ?_⟩
          refine ⟨_, us, rfl, s2, hD2, ?_, by omega⟩
          rw [take_succ_get htm, nmW_num]
          exact hus
        | nam z =>
          refine ⟨_, rfl, _, rfl, t, _, _, _, rfl, rfl, SqT.of ht2, atI_nat hy, p, _, _, _, rfl, rfl, SqT.of hp2, atI_nat (j := 1) rfl, _, _, _, _, rfl, .str z, kit_same _ _, _, rfl, iteT ?_⟩
          refine ⟨_, rfl, _, rfl, _, _, rfl, rfl, .inl ⟨by decide, by decide⟩, _, _, rfl, rfl, _, rfl, _, rfl, t, _, _, _, rfl, rfl, SqT.of ht2, atI_nat hy, p, _, _, _, rfl, rfl, SqT.of hp2, atI_nat (j := 1) rfl, (by show 2 ≤ sizeLine; decide), fun q' gq => ?_⟩
          have s4 := (Same.refl H3).new (o := .tup [.int (3 + 2 * (i : Int)), .str z]) gq
          have hD4 := s4 _ _ hD2
          have T5 := Tups.lst (ys := us ++ [.ref q']) hD4
          refine ⟨us, hD4, small1000 (by omega), _, us ++ [.ref q'], rfl, (s2.trans s4).put gD, upd_same, ?_, by rw [List.length_append]; simp; omega⟩
          rw [take_succ_get htm, nmW_nam, hil]
          exact Paired.snoc (Paired.mapP hus fun _ _ w => w.mono (s4.tups.trans T5)) ⟨q', rfl, T5 _ _ upd_same⟩
      · rintro σ H2 ⟨v0, us, rfl, s2, hD2, hus, hul⟩
        refine ⟨Nat.le_refl _, ?_⟩
        rw [hvl, List.take_length] at hus
        have hrt2 := s2 _ _ hrt
        refine ⟨_, rfl, r, _, _, _, rfl, rfl, SqT.of hrt2, atI_nat (j := 0) rfl, rfl, _, rfl, iteSN (by decide +kernel) ?_⟩
        exact ⟨_, rfl, q D us H2 s2 hD2 hus⟩
    | need ts hd =>
      obtain ⟨t, hrt, hts⟩ := hra
      refine ⟨_, rfl, r, _, _, _, rfl, rfl, SqT.of ((Same.refl H) _ _ hrt), atI_nat (j := 0) rfl, rfl, _, rfl, iteSN (by decide +kernel) ?_⟩
      refine ⟨_, rfl, r, _, _, _, rfl, rfl, SqT.of ((Same.refl H) _ _ hrt), atI_nat (j := 1) rfl, ?_⟩
      refine ⟨_, rfl, r, _, _, _, rfl, rfl, SqT.of ((Same.refl H) _ _ hrt), atI_nat (j := 0) rfl, rfl, _, rfl, iteSN (by decide +kernel) ?_⟩
      obtain ⟨⟨vs, htv, htsP⟩, lo, hi⟩ := hts
      have hvl : vs.length = ts.length := Paired.length htsP
      refine ⟨_, rfl, t, _, rfl, .inr (SqT.of htv), _, rfl, (by omega), (by omega), fun D gD => ?_⟩
      refine comp_by vs.length (fun i σ H2 => ∃ (v0 : Option V) (us : List V), σ = [v0, some (.int 1), some (.ref t)] ∧ Same H H2 ∧ H2 D = some (.lst us) ∧ Paired (WdAt H2) us (nmW 1 (ts.take i)) ∧ us.length ≤ i) ⟨_, [], rfl, (Same.refl H).new gD, upd_same, .nil, Nat.le_refl _⟩ ?_ ?_
      · rintro i σ H2 hi' ⟨v0, us, rfl, s2, hD2, hus, hul⟩
        refine ⟨hi', ?_⟩
        rintro x H3 ⟨rfl, rfl⟩
        obtain ⟨y, hy⟩ : ∃ y, vs[i]? = some y := ⟨vs[i], List.getElem?_eq_getElem hi'⟩
        obtain ⟨tm, htm, p, ep, hp, hok⟩ := Paired.get? htsP hy
        subst ep
        have hil : (ts.take i).length = i := by rw [List.length_take]; omega
        have ht2 := s2 _ _ htv
        have hp2 := s2 _ _ hp
        obtain ⟨si, th⟩ := tm
        rw [Int.zero_add]
        cases th with
        | num n =>
          refine ⟨_, rfl, _, rfl, t, _, _, _, rfl, rfl, SqT.of ht2, atI_nat hy, p, _, _, _, rfl, rfl, SqT.of hp2, atI_nat (j := 1) rfl, _, _, _, _, rfl, .int n, kit_int_str _, _, rfl, iteF ?_⟩
          refine ⟨_, us, rfl, s2, hD2, ?_, by omega⟩
          rw [take_succ_get htm, nmW_num]
          exact hus
        | nam z =>
          refine ⟨_, rfl, _, rfl, t, _, _, _, rfl, rfl, SqT.of ht2, atI_nat hy, p, _, _, _, rfl, rfl, SqT.of hp2, atI_nat (j := 1) rfl, _, _, _, _, rfl, .str z, kit_same _ _, _, rfl, iteT ?_⟩
          refine ⟨_, rfl, _, rfl, _, _, rfl, rfl, .inl ⟨by decide, by decide⟩, _, _, rfl, rfl, _, rfl, _, rfl, t, _, _, _, rfl, rfl, SqT.of ht2, atI_nat hy, p, _, _, _, rfl, rfl, SqT.of hp2, atI_nat (j := 1) rfl, (by show 2 ≤ sizeLine; decide), fun q' gq => ?_⟩
          have s4 := (Same.refl H3).new (o := .tup [.int (1 + 2 * (i : Int)), .str z]) gq
          have hD4 := s4 _ _ hD2
          have T5 := Tups.lst (ys := us ++ [.ref q']) hD4
          refine ⟨us, hD4, small1000 (by omega), _, us ++ [.ref q'], rfl, (s2.trans s4).put gD, upd_same, ?_, by rw [List.length_append]; simp; omega⟩
          rw [take_succ_get htm, nmW_nam, hil]
          exact Paired.snoc (Paired.mapP hus fun _ _ w => w.mono (s4.tups.trans T5)) ⟨q', rfl, T5 _ _ upd_same⟩
      · rintro σ H2 ⟨v0, us, rfl, s2, hD2, hus, hul⟩
        refine ⟨Nat.le_refl _, ?_⟩
        rw [hvl, List.take_length] at hus
        have hrt2 := s2 _ _ hrt
        refine ⟨_, rfl, r, _, _, _, rfl, rfl, SqT.of hrt2, atI_nat (j := 0) rfl, rfl, _, rfl, iteSN (by decide +kernel) ?_⟩
        exact ⟨_, rfl, q D us H2 s2 hD2 hus⟩
    | say ts w hd hw =>
      obtain ⟨t, hrt, hts⟩ := hra
      refine ⟨_, rfl, r, _, _, _, rfl, rfl, SqT.of ((Same.refl H) _ _ hrt), atI_nat (j := 0) rfl, rfl, _, rfl, iteSN (by decide +kernel) ?_⟩
      refine ⟨_, rfl, r, _, _, _, rfl, rfl, SqT.of ((Same.refl H) _ _ hrt), atI_nat (j := 1) rfl, ?_⟩
      refine ⟨_, rfl, r, _, _, _, rfl, rfl, SqT.of ((Same.refl H) _ _ hrt), atI_nat (j := 0) rfl, rfl, _, rfl, iteSN (by decide +kernel) ?_⟩
      obtain ⟨⟨vs, htv, htsP⟩, lo, hi⟩ := hts
      have hvl : vs.length = ts.length := Paired.length htsP
      refine ⟨_, rfl, t, _, rfl, .inr (SqT.of htv), _, rfl, (by omega), (by omega), fun D gD => ?_⟩
      refine comp_by vs.length (fun i σ H2 => ∃ (v0 : Option V) (us : List V), σ = [v0, some (.int 1), some (.ref t)] ∧ Same H H2 ∧ H2 D = some (.lst us) ∧ Paired (WdAt H2) us (nmW 1 (ts.take i)) ∧ us.length ≤ i) ⟨_, [], rfl, (Same.refl H).new gD, upd_same, .nil, Nat.le_refl _⟩ ?_ ?_
      · rintro i σ H2 hi' ⟨v0, us, rfl, s2, hD2, hus, hul⟩
        refine ⟨hi', ?_⟩
        rintro x H3 ⟨rfl, rfl⟩
        obtain ⟨y, hy⟩ : ∃ y, vs[i]? = some y := ⟨vs[i], List.getElem?_eq_getElem hi'⟩
        obtain ⟨tm, htm, p, ep, hp, hok⟩ := Paired.get? htsP hy
        subst ep
        have hil : (ts.take i).length = i := by rw [List.length_take]; omega
        have ht2 := s2 _ _ htv
        have hp2 := s2 _ _ hp
        obtain ⟨si, th⟩ := tm
        rw [Int.zero_add]
        cases th with
        | num n =>
          refine ⟨_, rfl, _, rfl, t, _, _, _, rfl, rfl, SqT.of ht2, atI_nat hy, p, _, _, _, rfl, rfl, SqT.of hp2, atI_nat (j := 1) rfl, _, _, _, _, rfl, .int n, kit_int_str _, _, rfl, iteF ?_⟩
          refine ⟨_, us, rfl, s2, hD2, ?_, by omega⟩
          rw [take_succ_get htm, nmW_num]
          exact hus
        | nam z =>
          refine ⟨_, rfl, _, rfl, t, _, _, _, rfl, rfl, SqT.of ht2, atI_nat hy, p, _, _, _, rfl, rfl, SqT.of hp2, atI_nat (j := 1) rfl, _, _, _, _, rfl, .str z, kit_same _ _, _, rfl, iteT ?_⟩
          refine ⟨_, rfl, _, rfl, _, _, rfl, rfl, .inl ⟨by decide, by decide⟩, _, _, rfl, rfl, _, rfl, _, rfl, t, _, _, _, rfl, rfl, SqT.of ht2, atI_nat hy, p, _, _, _, rfl, rfl, SqT.of hp2, atI_nat (j := 1) rfl, (by show 2 ≤ sizeLine; decide), fun q' gq => ?_⟩
          have s4 := (Same.refl H3).new (o := .tup [.int (1 + 2 * (i : Int)), .str z]) gq
          have hD4 := s4 _ _ hD2
          have T5 := Tups.lst (ys := us ++ [.ref q']) hD4
          refine ⟨us, hD4, small1000 (by omega), _, us ++ [.ref q'], rfl, (s2.trans s4).put gD, upd_same, ?_, by rw [List.length_append]; simp; omega⟩
          rw [take_succ_get htm, nmW_nam, hil]
          exact Paired.snoc (Paired.mapP hus fun _ _ w => w.mono (s4.tups.trans T5)) ⟨q', rfl, T5 _ _ upd_same⟩
      · rintro σ H2 ⟨v0, us, rfl, s2, hD2, hus, hul⟩
        refine ⟨Nat.le_refl _, ?_⟩
        rw [hvl, List.take_length] at hus
        have hrt2 := s2 _ _ hrt
        refine ⟨_, rfl, r, _, _, _, rfl, rfl, SqT.of hrt2, atI_nat (j := 0) rfl, rfl, _, rfl, iteSE ?_⟩
        refine ⟨_, rfl, t, _, rfl, .inr (SqT.of (s2 _ _ htv)), _, _, rfl, rfl, .inl ⟨by decide, by decide⟩, _, _, rfl, rfl, _, rfl, r, _, _, _, rfl, rfl, SqT.of hrt2, atI_nat (j := 2) rfl, (by show 2 ≤ sizeLine; decide), fun p gp => ⟨(by show 1 ≤ sizeLine; decide), fun l1 g1 => ?_⟩⟩
        have s3 := ((Same.refl H2).new (o := .tup [.int (2 * (vs.length : Int) + 1), optV w]) gp).new (o := .lst [.ref p]) g1
        refine ⟨_, rfl, l1, D, _, _, rfl, rfl, upd_same, s3 _ _ hD2, Nat.le_of_lt (small1000 (by show 1 + us.length ≤ 1000; omega)), fun l gl => ?_⟩
        have s4 := s3.new (o := .lst ([.ref p] ++ us)) gl
        refine q l ([.ref p] ++ us) _ (s2.trans s4) upd_same ?_
        show Paired _ _ ((2 * (ts.length : Int) + 1, w) :: nmW 1 ts)
        rw [← hvl]
        exact .cons ⟨p, rfl, upd_keep (upd_keep upd_same g1) gl⟩ (Paired.mapP hus fun _ _ z => z.mono s4.tups)
noncomputable def But2 (a b : Addr) (H H' : Hp) : Prop := ∀ c o, c ≠ a → c ≠ b → H c = some o → H' c = some o
theorem But2.of {a b : Addr} {H H' : Hp} (s : Same H H') : But2 a b H H' := fun c o _ _ h => s c o h
theorem But2.same {a b : Addr} {H H1 H2 : Hp} (h : But2 a b H H1) (s : Same H1 H2) : But2 a b H H2 := fun c o h1 h2 h3 => s _ _ (h c o h1 h2 h3)
theorem But2.put1 {a b : Addr} {H H1 : Hp} {o : HO} (h : But2 a b H H1) : But2 a b H (upd H1 a o) := fun c o' h1 h2 h3 => by
  rw [upd_ne h1]
  exact h c o' h1 h2 h3
theorem But2.put2 {a b : Addr} {H H1 : Hp} {o : HO} (h : But2 a b H H1) : But2 a b H (upd H1 b o) := fun c o' h1 h2 h3 => by
  rw [upd_ne h2]
  exact h c o' h1 h2 h3
theorem if_to {t : TT} {te : TE} {R : TS} {D : Ends} {i : Nat} {σ : L2.St} {H : Hp} {r : VK} {b k : L2.St → Hp → Prop} {v : V} (x : V) (ht : ∃ bb : Bool, (∀ Q : Bool → Hp → Prop, Q bb H → t (σ.set i (some v)) H Q) ∧ (bb = true → ∀ Q : VK, Q x H → te (σ.set i (some v)) H Q) ∧ (bb = false → x = v)) (hR : R D (σ.set i (some x)) H) : gName i v σ H (Ends.nx ⟨tSeq (tIfS t (tAsg te (gName i)) tNext) R D, r, b, k⟩) := by
  obtain ⟨bb, h1, h2, h3⟩ := ht
  refine h1 _ ?_
  cases bb with
  | true =>
    refine iteT (h2 rfl _ ?_)
    show R D ((σ.set i (some v)).set i (some x)) H
    rw [List.set_set]
    exact hR
  | false => exact iteF (by rw [h3 rfl] at hR; exact hR)
noncomputable def whOf : Rw → Option Str
  | .say _ w => w
  | .ask _ w => w
  | _ => none
noncomputable def gW (d : Int × Option Str) : Option (Int × Str) := d.2.map fun x => (d.1, x)
theorem nmW_g (k : Int) (ts : List (Int × Th)) : (nmW k ts).filterMap gW = L2.namesOf k ts := by
  unfold nmW
  rw [List.filterMap_map]
  generalize L2.namesOf k ts = l
  induction l with
  | nil => rfl
  | cons a l ih => rw [List.filterMap_cons]; show (a.1, a.2) :: _ = _; rw [ih]
theorem rd_words {f : Int} {m : Nat} {rw : Rw} (h : Row22 f m rw) : rdR rw = (wdsW rw).filterMap gW := by
  cases h with
  | set ts hd => exact (nmW_g 3 ts).symm
  | need ts hd => exact (nmW_g 1 ts).symm
  | ask w hw => cases w <;> rfl
  | say ts w hd hw =>
    cases w with
    | none => exact (nmW_g 1 ts).symm
    | some x =>
      show _ = (2 * (ts.length : Int) + 1, x) :: (nmW 1 ts).filterMap gW
      rw [nmW_g]
      rfl
structure Py2 (N : Nt) (U VA : Addr) (n : Nat) (S : GS) (H : Hp) : Prop where
  hU : ∃ us, H U = some (.lst us) ∧ Paired (DdAt H) us S.tr
  hV : ∃ kvs, H VA = some (.dK kvs) ∧ kvs.length ≤ n ∧ ∀ x k, N.km ("one", x) = some k → valV kvs (Sum.inr x) = valV S.gv (kN k)
  gi : ∀ k v, valV S.gv k = some v → ∃ i : Int, v = .int i
theorem Py2.ne {N : Nt} {U VA : Addr} {n : Nat} {S : GS} {H : Hp} (h : Py2 N U VA n S H) : U ≠ VA := by
  obtain ⟨us, h1, _⟩ := h.hU
  obtain ⟨kvs, h2, _⟩ := h.hV
  intro z
  rw [z, h2] at h1
  cases h1
theorem Py2.up {N : Nt} {U VA : Addr} {n : Nat} {S S' : GS} {H H' : Hp} (h : Py2 N U VA n S H) (s : Same H H') (e1 : S'.tr = S.tr) (e2 : S'.gv = S.gv) : Py2 N U VA (n + 1) S' H' := by
  obtain ⟨us, h1, h1b⟩ := h.hU
  obtain ⟨kvs, h2, h2b, h2c⟩ := h.hV
  exact ⟨⟨us, s _ _ h1, by rw [e1]; exact Paired.mapP h1b fun _ _ z => z.mono s.tups⟩, ⟨kvs, s _ _ h2, by omega, by rw [e2]; exact h2c⟩, by rw [e2]; exact h.gi⟩
theorem Py2.said {N : Nt} {U VA : Addr} {n : Nat} {S S' : GS} {H H' : Hp} {us : List V} {pt : Addr} {d : Dd} (h : Py2 N U VA n S H) (s : Same H H') (hu : H' U = some (.lst us)) (hd : DdAt H' (.ref pt) d) (e1 : S'.tr = S.tr ++ [d]) (e2 : S'.gv = S.gv) : Py2 N U VA (n + 1) S' (upd H' U (.lst (us ++ [.ref pt]))) := by
  have ne := h.ne
  obtain ⟨us', h1, h1b⟩ := h.hU
  obtain ⟨kvs, h2, h2b, h2c⟩ := h.hV
  have := s _ _ h1
  rw [hu] at this
  cases this
  have T := Tups.lst (ys := us ++ [.ref pt]) hu
  exact ⟨⟨_, upd_same, by rw [e1]; exact Paired.snoc (Paired.mapP h1b fun _ _ z => z.mono (s.tups.trans T)) (hd.mono T)⟩, ⟨kvs, by rw [upd_ne ne.symm]; exact s _ _ h2, by omega, by rw [e2]; exact h2c⟩, by rw [e2]; exact h.gi⟩
theorem kN_inj {a b : Str × Nat} (h : kN a = kN b) : a = b := by
  obtain ⟨a1, a2⟩ := a
  obtain ⟨b1, b2⟩ := b
  unfold kN at h
  have h1 := (List.cons.inj h).1
  have h2 := (List.cons.inj (List.cons.inj h).2).1
  have e1 : a1 = b1 := Sum.inr.inj h1
  have e2 : ((a2 : Nat) : Int) = (b2 : Nat) := Sum.inl.inj h2
  rw [e1, Int.ofNat.inj e2]
theorem rel2_put {N : Nt} (inj : ∀ x y k, N.km ("one", x) = some k → N.km ("one", y) = some k → x = y) {gv : List (List Key × V)} {kvs : List (Key × V)} {x : Str} {k : Str × Nat} (hk : N.km ("one", x) = some k) (v : V) (h : ∀ x k, N.km ("one", x) = some k → valV kvs (Sum.inr x) = valV gv (kN k)) : ∀ x' k', N.km ("one", x') = some k' → valV (putK kvs (Sum.inr x) v) (Sum.inr x') = valV (putK gv (kN k) v) (kN k') := fun x' k' hk' => by
  rw [valV_put, valV_put]
  by_cases e : x' = x
  · have ek : k' = k := by rw [e] at hk'; rw [hk] at hk'; exact (Option.some.inj hk').symm
    rw [e, ek, if_pos rfl, if_pos rfl]
  · have ne1 : ¬ (Sum.inr x' : Key) = Sum.inr x := fun z => e (Sum.inr.inj z)
    have ne2 : ¬ kN k' = kN k := fun z => e (inj _ _ k (by rw [← kN_inj z]; exact hk') hk)
    rw [if_neg (by first | exact ne1 | exact fun z => ne1 z.symm), if_neg (by first | exact ne2 | exact fun z => ne2 z.symm)]
    exact h x' k' hk'
theorem int_put {gv : List (List Key × V)} {a : List Key} {i : Int} (h : ∀ k v, valV gv k = some v → ∃ i : Int, v = .int i) : ∀ k v, valV (putK gv a (.int i)) k = some v → ∃ i : Int, v = .int i := fun k w e => by
  rw [valV_put] at e
  split at e
  · exact ⟨i, (Option.some.inj e).symm⟩
  · exact h k w e
theorem tot_sum {N : Nt} {gv : List (List Key × V)} {kvs : List (Key × V)} : ∀ (ts : List (Int × Th)), (∀ d ∈ ts, ∀ x, d.2 = .nam x → lk N gv "one" x = valV kvs (Sum.inr x)) → totW kvs ts = sumV N gv "one" ts := by
  intro ts h
  unfold totW sumV
  have : ∀ (l : List (Int × Th)) (a : Int), (∀ d ∈ l, ∀ x, d.2 = .nam x → lk N gv "one" x = valV kvs (Sum.inr x)) → l.foldl (fun a d => a + d.1 * thW kvs d.2) a = l.foldl (fun a t => a + t.1 * tv N gv "one" t.2) a := by
    intro l
    induction l with
    | nil => intro a _; rfl
    | cons d l ih =>
      intro a hl
      rw [List.foldl_cons, List.foldl_cons]
      have e : thW kvs d.2 = tv N gv "one" d.2 := by
        cases hd : d.2 with
        | num n => rfl
        | nam x =>
          show ivl (valV kvs (Sum.inr x)) = ivl (lk N gv "one" x)
          rw [hl d (by simp) x hd]
      rw [e]
      exact ih _ fun d' hd' => hl d' (by simp [hd'])
  exact this ts 0 h
theorem early_i {N : Nt} {gv : List (List Key × V)} {rw : Rw} {f : Int} {m : Nat} (hR : Row22 f m rw) {i : Nat} {k : Int} {x : Str} (hi : (wdsW rw)[i]? = some (k, some x)) (hb : ∀ d ∈ (wdsW rw).take i, ∀ y, d.2 = some y → (lk N gv "one" y).isSome = true) (hx : lk N gv "one" x = none) : earlyR N gv "one" rw = some k := by
  unfold earlyR
  rw [rd_words hR]
  have hlt : i < (wdsW rw).length := by
    by_cases z : i < (wdsW rw).length
    · exact z
    · rw [List.getElem?_eq_none (by omega)] at hi; cases hi
  have e : wdsW rw = (wdsW rw).take i ++ (k, some x) :: (wdsW rw).drop (i + 1) := by
    rw [List.getElem?_eq_getElem hlt] at hi
    rw [← Option.some.inj hi, List.getElem_cons_drop, List.take_append_drop]
  rw [e, List.filterMap_append, List.find?_append]
  have h1 : (((wdsW rw).take i).filterMap gW).find? (fun d => !(lk N gv "one" d.2).isSome) = none := by
    rw [List.find?_eq_none]
    intro d hd
    obtain ⟨d0, hd0, e0⟩ := List.mem_filterMap.mp hd
    obtain ⟨y, hy, ey⟩ := Option.map_eq_some_iff.mp e0
    rw [← ey]
    show ¬ (!(lk N gv "one" y).isSome) = true
    rw [hb d0 hd0 y hy]
    simp
  have h2 : (fun d : Int × Str => !(lk N gv "one" d.2).isSome) = fun d => !(lk N gv "one" d.2).isSome := rfl
  rw [h1, List.filterMap_cons]
  show Option.map _ (Option.or none (List.find? _ ((k, x) :: _))) = _
  rw [List.find?_cons_of_pos (by show (!(lk N gv "one" x).isSome) = true; rw [hx]; rfl)]
  rfl
theorem early_no {N : Nt} {gv : List (List Key × V)} {rw : Rw} {f : Int} {m : Nat} (hR : Row22 f m rw) (hb : ∀ d ∈ wdsW rw, ∀ y, d.2 = some y → (lk N gv "one" y).isSome = true) : earlyR N gv "one" rw = none := by
  unfold earlyR
  rw [rd_words hR, Option.map_eq_none_iff, List.find?_eq_none]
  intro d hd
  obtain ⟨d0, hd0, e0⟩ := List.mem_filterMap.mp hd
  obtain ⟨y, hy, ey⟩ := Option.map_eq_some_iff.mp e0
  rw [← ey]
  show ¬ (!(lk N gv "one" y).isSome) = true
  rw [hb d0 hd0 y hy]
  simp
theorem off_wh {N : Nt} {gv : List (List Key × V)} {rw : Rw} {f : Int} {m : Nat} (hR : Row22 f m rw) : offR N gv "one" rw = match whOf rw with | some x => (lk N gv "one" x).isSome && decide (ivl (lk N gv "one" x) ≤ 0) | none => false := by
  cases hR with
  | set ts hd => rfl
  | need ts hd => rfl
  | ask w hw => cases w <;> rfl
  | say ts w hd hw => cases w <;> rfl
theorem wh_first {f : Int} {m : Nat} {rw : Rw} (hR : Row22 f m rw) {x : Str} (h : whOf rw = some x) : ∃ k, (wdsW rw)[0]? = some (k, some x) := by
  cases hR with
  | set ts hd => cases h
  | need ts hd => cases h
  | ask w hw => exact ⟨3, by have h' : w = some x := h; rw [h']; rfl⟩
  | say ts w hd hw => exact ⟨_, by have h' : w = some x := h; rw [h']; rfl⟩
noncomputable def spDone : Sp := fun vs H Q _ => ∃ (r VA U : Addr) (j : Nat) (nn : Int) (rw : Rw) (f : Int) (m n : Nat) (N : Nt) (ns : List Int) (go : Str → GS → GS) (S : GS), vs = [.ref r, .ref VA, .int (j : Int), .ref U, .int nn] ∧ RowAt H r rw ∧ Row22 f m rw ∧ (∀ d ∈ rdR rw, ∃ k, N.km ("one", d.2) = some k) ∧ (∀ o, ownR rw = some o → ∃ k, N.km ("one", o) = some k) ∧ (∀ x y k, N.km ("one", x) = some k → N.km ("one", y) = some k → x = y) ∧ (go "other" S = { S with bg := S.bg ++ [("other" : Str)], tr := S.tr ++ [((("say" : Str), nn, ("other" : Str), 0) : Dd)] }) ∧ (∀ w, rw = .ask "other" w → ("other" : Str) ∉ S.bg) ∧ S.ft = none ∧ S.tr.length ≤ 50 ∧ n ≤ 50 ∧ Py2 N U VA n S H ∧
  ∀ (v : V) (H' : Hp), But2 U VA H H' → FtAt H' v (stepG N ns go S ("one", j, rw)).ft → Py2 N U VA (n + 1) (stepG N ns go S ("one", j, rw)) H' → Q v H'
theorem iteDTq {c : Prop} [Decidable c] {Q : Bool → Hp → Prop} {H : Hp} (hc : c) (h : Q true H) : Q (decide c) H := by rw [decide_eq_true hc]; exact h
theorem iteDFq {c : Prop} [Decidable c] {Q : Bool → Hp → Prop} {H : Hp} (hc : ¬ c) (h : Q false H) : Q (decide c) H := by rw [decide_eq_false hc]; exact h
theorem ok_done (T : Txt K mg) : L2.Cl P w K mg base 2 "_law_done" ["_law_row_here", "_law_values", "_law_place", "_law_due", "_law_number_here"] spDone := by
  have C_law_words := ok_words (P := P) (w := w) (base := base) T
  have C_law_total := ok_total (P := P) (w := w) (base := base) T
  refine Cl.of T.d_law_done sc_law_done (fun vs H Q E h => ?_) (fun _ _ _ _ _ _ us hl => len5 us hl (fun _ _ _ _ _ => rfl)) (fun fa cdv A outer s H vs Q E hr h => ?_)
  · obtain ⟨r, VA, U, j, nn, rw, f, m, n, N, ns, go, S, rfl, _⟩ := h
    rfl
  · obtain ⟨r, VA, U, j, nn, rw, f, m, n, N, ns, go, S, rfl, hra, hR, hkr, hko, hinj, hgo, hoth, hft, htl, hn, py, q⟩ := h
    have hu := hu_of hr
    obtain ⟨kvs, hV, hVl, hVr⟩ := py.hV
    have hlk : ∀ x, (∃ k, N.km ("one", x) = some k) → lk N S.gv "one" x = valV kvs (Sum.inr x) := fun x ⟨k, hk⟩ => by rw [off_key hk]; exact (hVr x k hk).symm
    have hwk : ∀ d ∈ wdsW rw, ∀ x, d.2 = some x → lk N S.gv "one" x = valV kvs (Sum.inr x) := fun d hd x e => by
      refine hlk x (hkr (d.1, x) ?_)
      rw [rd_words hR]
      exact List.mem_filterMap.mpr ⟨d, hd, by unfold gW; rw [e]; rfl⟩
    refine ⟨_, (pss_cons (ps_set (i := 5) sc_law_done.nd rfl (Or.inl rfl) pe_non)
      (pss_cons (ps_if (PW.pt (pw_or (pt_cmpR op_eq (pe_ix ix_tup (pv 0) pe_int (fun _ _ => rfl)) pe_str (nomark _)) (pw_or1 (pt_cmpR op_eq (pe_ix ix_tup (pv 0) pe_int (fun _ _ => rfl)) pe_str (nomark _)))))
        (pss_one (ps_set (i := 5) sc_law_done.nd rfl (Or.inl rfl) (pe_ix ix_tup (pv 0) pe_int (fun _ _ => rfl)))) pss_nil)
      (pss_cons (ps_for PassesOwn.never rfl (pi_list (pe_fn C_law_words hr (by rfl) (pa_cons (pv 0) pa_nil))) (pg_tup rfl (pgs_cons (pg_name (i := 6) sc_law_done.nd rfl (Or.inl rfl)) (pgs_cons (pg_name (i := 7) sc_law_done.nd rfl (Or.inl rfl)) pgs_nil)))
        (pss_cons (ps_if (PW.pt (pw_and (pt_cmp (pc_notN (pv 7))) (pw_and1 (pt_cmp (pc_dnotin hu (pv 7) (pv 1))))))
          (pss_one (ps_ret (pe_tup (pa_cons pe_str (pa_cons pe_str (pa_cons (pv 2) (pa_cons (pv 6) pa_nil))))))) pss_nil)
        (pss_one (ps_if (PW.pt (pw_and (pt_cmp (pc_notN (pv 7))) (pw_and (pt_cmpR op_eq (pv 7) (pv 5) (nomark _)) (pw_and1 (pt_cmpR op_le (pe_dget hu (pv 1) (pv 7) (fun _ _ => rfl)) pe_int (nomark _))))))
          (pss_one (ps_ret pe_non)) pss_nil))))
      (pss_cons (ps_if (pt_cmpR op_eq (pe_ix ix_tup (pv 0) pe_int (fun _ _ => rfl)) pe_str (nomark _))
        (pss_one (ps_dput hu (pv 1) (pe_ix ix_tup (pv 0) pe_int (fun _ _ => rfl)) (pe_fn C_law_total hr (by rfl) (pa_cons (pe_ix ix_tup (pv 0) pe_int (fun _ _ => rfl)) (pa_cons (pv 1) pa_nil))) rfl)) pss_nil)
      (pss_cons (ps_if (pt_cmpR op_eq (pe_ix ix_tup (pv 0) pe_int (fun _ _ => rfl)) pe_str (nomark _))
        (pss_one (ps_expr (pe_bm PySem.F.plainAttrs_list PySem.F.slot_list_append PySem.F.type_list_append mt_append (pv 3) (pa_cons (pe_tup (pa_cons pe_str (pa_cons (pe_fn C_law_total hr (by rfl) (pa_cons (pe_ix ix_tup (pv 0) pe_int (fun _ _ => rfl)) (pa_cons (pv 1) pa_nil))) (pa_cons pe_str (pa_cons (pv 2) pa_nil))))) pa_nil)))) pss_nil)
      (pss_cons (ps_if (pt_cmpR op_eq (pe_ix ix_tup (pv 0) pe_int (fun _ _ => rfl)) pe_str (nomark _))
        (pss_one (ps_expr (pe_bm PySem.F.plainAttrs_list PySem.F.slot_list_append PySem.F.type_list_append mt_append (pv 3) (pa_cons (pe_tup (pa_cons pe_str (pa_cons (pv 4) (pa_cons pe_str (pa_cons pe_int pa_nil))))) pa_nil)))) pss_nil)
      (pss_cons (ps_if (PW.pt (pw_and (pt_cmpR op_eq (pe_ix ix_tup (pv 0) pe_int (fun _ _ => rfl)) pe_str (nomark _)) (pw_and1 (pt_cmpR op_le (pe_fn C_law_total hr (by rfl) (pa_cons (pe_ix ix_tup (pv 0) pe_int (fun _ _ => rfl)) (pa_cons (pv 1) pa_nil))) pe_int (nomark _)))))
        (pss_one (ps_ret (pe_tup (pa_cons pe_str (pa_cons pe_str (pa_cons (pv 2) (pa_cons pe_int pa_nil))))))) pss_nil)
      (pss_one (ps_ret pe_non))))))))), ?_⟩
    show gName 5 V.non _ H _
    refine if_to (optV (whOf rw)) ?_ ?_
    · have hRr := hR
      cases hR with
      | set ts hd =>
        obtain ⟨t, hrt, _⟩ := hra
        exact ⟨false, fun Q h => ⟨_, rfl, r, _, _, _, rfl, rfl, SqT.of ((Same.refl H) _ _ hrt), atI_nat (j := 0) rfl, rfl, _, rfl, iteSN (by decide +kernel) ⟨_, rfl, r, _, _, _, rfl, rfl, SqT.of ((Same.refl H) _ _ hrt), atI_nat (j := 0) rfl, rfl, _, rfl, iteDFq (by decide +kernel) h⟩⟩, (fun z => by cases z), fun _ => rfl⟩
      | need ts hd =>
        obtain ⟨t, hrt, _⟩ := hra
        exact ⟨false, fun Q h => ⟨_, rfl, r, _, _, _, rfl, rfl, SqT.of ((Same.refl H) _ _ hrt), atI_nat (j := 0) rfl, rfl, _, rfl, iteSN (by decide +kernel) ⟨_, rfl, r, _, _, _, rfl, rfl, SqT.of ((Same.refl H) _ _ hrt), atI_nat (j := 0) rfl, rfl, _, rfl, iteDFq (by decide +kernel) h⟩⟩, (fun z => by cases z), fun _ => rfl⟩
      | ask w hw =>
        have hrt : H r = some (.tup [.str "ask", .str "other", optV w]) := hra
        exact ⟨true, fun Q h => ⟨_, rfl, r, _, _, _, rfl, rfl, SqT.of ((Same.refl H) _ _ hrt), atI_nat (j := 0) rfl, rfl, _, rfl, iteSN (by decide +kernel) ⟨_, rfl, r, _, _, _, rfl, rfl, SqT.of ((Same.refl H) _ _ hrt), atI_nat (j := 0) rfl, rfl, _, rfl, iteDTq rfl h⟩⟩, fun _ Q h => ⟨_, rfl, r, _, _, _, rfl, rfl, SqT.of ((Same.refl H) _ _ hrt), atI_nat (j := 2) rfl, h⟩, (fun z => by cases z)⟩
      | say ts w hd hw =>
        obtain ⟨t, hrt, _⟩ := hra
        exact ⟨true, fun Q h => ⟨_, rfl, r, _, _, _, rfl, rfl, SqT.of ((Same.refl H) _ _ hrt), atI_nat (j := 0) rfl, rfl, _, rfl, iteSE h⟩, fun _ Q h => ⟨_, rfl, r, _, _, _, rfl, rfl, SqT.of ((Same.refl H) _ _ hrt), atI_nat (j := 2) rfl, h⟩, (fun z => by cases z)⟩
    refine ⟨_, rfl, r, rw, f, m, rfl, hra, hR, fun l us H2 s2 hl hus => ?_⟩
    have hV2 := s2 _ _ hV
    have b2 : But2 U VA H H2 := But2.of s2
    refine ⟨l, rfl, ⟨_, SqL.of hl⟩, for_list (K := K) (a := l) (xs := us) (fun i σ H3 => ∃ v6 v7 : Option V, σ = [some (.ref r), some (.ref VA), some (.int (j : Int)), some (.ref U), some (.int nn), some (optV (whOf rw)), v6, v7] ∧ H3 = H2 ∧ ∀ d ∈ (wdsW rw).take i, ∀ x, d.2 = some x → ∃ jv : Int, valV kvs (Sum.inr x) = some (.int jv) ∧ (whOf rw = some x → 0 < jv))
      ⟨none, none, rfl, rfl, by simp⟩ (fun i σ H3 _ ⟨_, _, _, e, _⟩ => by rw [e]; exact SqL.of hl) ?_ ?_⟩
    · rintro i y σ H3 hy ⟨v6, v7, rfl, rfl, hkn⟩
      obtain ⟨⟨k, nm⟩, hd, tq, ey, htq⟩ := Paired.get? hus hy
      subst ey
      have hmem := List.mem_of_getElem? hd
      refine ⟨tq, _, rfl, SqT.of htq, rfl, _, _, rfl, _, _, rfl, rfl, ?_⟩
      cases nm with
      | none =>
        refine ⟨_, rfl, _, rfl, iteNS rfl (iteF ?_)⟩
        refine ⟨_, rfl, _, rfl, iteNS rfl (iteF ?_)⟩
        refine ⟨_, _, rfl, rfl, ?_⟩
        rw [take_succ_get hd]
        intro d hd' x e
        rcases List.mem_append.mp hd' with z | z
        · exact hkn d z x e
        · rw [List.mem_singleton.mp z] at e; cases e
      | some x =>
        have hlx := hwk _ hmem x rfl
        refine ⟨_, rfl, _, rfl, iteNX (by intro z; cases z) ?_⟩
        refine ⟨_, rfl, _, rfl, VA, _, rfl, DGet.k (k := Sum.inr x) hV2, _, rfl, ?_⟩
        cases ev : valV kvs (Sum.inr x) with
        | none =>
          refine iteT ?_
          refine ⟨_, rfl, _, rfl, (by show 4 ≤ sizeLine; decide), fun ft gft => ?_⟩
          have hbef : ∀ d ∈ (wdsW rw).take i, ∀ y, d.2 = some y → (lk N S.gv "one" y).isSome = true := fun d hd' y e => by
            obtain ⟨jv, e1, _⟩ := hkn d hd' y e
            rw [hwk d (List.mem_of_mem_take hd') y e, e1]; rfl
          have hoff : offR N S.gv "one" rw = false := by
            rw [off_wh hR]
            cases hw : whOf rw with
            | none => rfl
            | some z =>
              show ((lk N S.gv "one" z).isSome && decide (ivl (lk N S.gv "one" z) ≤ 0)) = false
              obtain ⟨k0, hk0⟩ := wh_first hR hw
              cases i with
              | zero =>
                rw [hd] at hk0
                cases hk0
                rw [hlx, ev]; rfl
              | succ i =>
                have hm0 : (k0, some z) ∈ (wdsW rw).take (i + 1) := by
                  have : ((wdsW rw).take (i + 1))[0]? = some (k0, some z) := by rw [List.getElem?_take]; simpa using hk0
                  exact List.mem_of_getElem? this
                obtain ⟨jv, e1, e2⟩ := hkn _ hm0 z rfl
                rw [hwk _ (List.mem_of_mem_take hm0) z rfl, e1]
                show (true && decide (jv ≤ 0)) = false
                have := e2 hw
                rw [decide_eq_false (by omega)]; rfl
          have hst : stepG N ns go S ("one", j, rw) = { S with ft := some ("early", "one", j, k) } := stepG_early hft hoff (early_i hR hd hbef (by rw [hlx, ev]))
          have s3 : Same H (upd H3 ft (.tup [.str "early", .str "one", .int (j : Int), .int k])) := s2.new gft
          refine q _ _ (But2.of s3) ?_ ?_
          · rw [hst]; exact ⟨ft, rfl, upd_same⟩
          · rw [hst]; exact py.up s3 rfl rfl
        | some v =>
          obtain ⟨kk, hkk⟩ : ∃ k, N.km ("one", x) = some k := hkr (k, x) (by rw [rd_words hR]; exact List.mem_filterMap.mpr ⟨_, hmem, rfl⟩)
          obtain ⟨jv, ej⟩ : ∃ jv : Int, v = .int jv := py.gi (kN kk) v (by rw [← hVr x kk hkk]; exact ev)
          subst ej
          refine iteF ?_
          refine ⟨_, rfl, _, rfl, iteNX (by intro z; cases z) ?_⟩
          have hcont : (whOf rw = some x → 0 < jv) → ∀ d ∈ (wdsW rw).take (i + 1), ∀ y, d.2 = some y → ∃ jv : Int, valV kvs (Sum.inr y) = some (.int jv) ∧ (whOf rw = some y → 0 < jv) := fun hp => by
            rw [take_succ_get hd]
            intro d hd' y e
            rcases List.mem_append.mp hd' with z | z
            · exact hkn d z y e
            · rw [List.mem_singleton.mp z] at e
              cases e
              exact ⟨jv, ev, hp⟩
          refine ⟨_, rfl, _, rfl, (by cases whOf rw <;> rfl), _, rfl, ?_⟩
          by_cases hw : whOf rw = some x
          · refine iteDT (by rw [hw]) ?_
            have hg : DGet H3 VA (.str x) (some (.int jv)) := by
              have := DGet.k (k := Sum.inr x) hV2
              rw [ev] at this
              exact this
            refine ⟨_, rfl, _, rfl, VA, .int jv, rfl, hg, _, _, rfl, rfl, _, rfl, ite2 (fun hle => ?_) (fun hle => ?_)⟩
            · have hj : jv ≤ 0 := of_decide_eq_true hle
              have hst : stepG N ns go S ("one", j, rw) = S := stepG_off hft (by rw [off_wh hR, hw]; show ((lk N S.gv "one" x).isSome && decide (ivl (lk N S.gv "one" x) ≤ 0)) = true; rw [hlx, ev]; show (true && decide (jv ≤ 0)) = true; rw [decide_eq_true hj]; rfl)
              refine q _ _ b2 ?_ ?_
              · rw [hst, hft]; rfl
              · rw [hst]; exact py.up s2 rfl rfl
            · have hj : 0 < jv := by
                by_cases z : jv ≤ 0
                · exact absurd (decide_eq_true z) hle
                · omega
              exact ⟨_, _, rfl, rfl, hcont fun _ => hj⟩
          · refine iteDF (fun z => hw ?_) (iteF ?_)
            · cases hww : whOf rw with
              | none => rw [hww] at z; cases z
              | some y => rw [hww] at z; have := V.str.inj z; rw [this]
            exact ⟨_, _, rfl, rfl, hcont fun z => absurd z hw⟩
    · rintro σ H3 ⟨v6, v7, rfl, rfl, hkn⟩
      rw [Paired.length hus, List.take_length] at hkn
      have hall : ∀ d ∈ wdsW rw, ∀ y, d.2 = some y → (lk N S.gv "one" y).isSome = true := fun d hd' y e => by
        obtain ⟨jv, e1, _⟩ := hkn d hd' y e
        rw [hwk d hd' y e, e1]; rfl
      have hoff : offR N S.gv "one" rw = false := by
        rw [off_wh hR]
        cases hw : whOf rw with
        | none => rfl
        | some z =>
          show ((lk N S.gv "one" z).isSome && decide (ivl (lk N S.gv "one" z) ≤ 0)) = false
          obtain ⟨k0, hk0⟩ := wh_first hR hw
          obtain ⟨jv, e1, e2⟩ := hkn _ (List.mem_of_getElem? hk0) z rfl
          rw [hwk _ (List.mem_of_getElem? hk0) z rfl, e1]
          show (true && decide (jv ≤ 0)) = false
          have := e2 hw
          rw [decide_eq_false (by omega)]; rfl
      have hear := early_no hR hall
      have hnames : ∀ x, (∃ e ∈ rdR rw, e.2 = x) → lk N S.gv "one" x = valV kvs (Sum.inr x) ∧ ∃ i : Int, valV kvs (Sum.inr x) = some (.int i) := fun x ⟨e, he, ex⟩ => by
        rw [rd_words hR] at he
        obtain ⟨d0, hd0, e0⟩ := List.mem_filterMap.mp he
        obtain ⟨y, hy, ey⟩ := Option.map_eq_some_iff.mp e0
        have : y = x := by rw [← ex, ← ey]
        subst this
        obtain ⟨jv, e1, _⟩ := hkn d0 hd0 y hy
        exact ⟨hwk d0 hd0 y hy, jv, e1⟩
      obtain ⟨us0, hU, hus0⟩ := py.hU
      have hul0 : us0.length = S.tr.length := Paired.length hus0
      cases hR with
      | set ts hd =>
        obtain ⟨t, hrt, hts⟩ := hra
        obtain ⟨ko, hko'⟩ := hko (nm22 f m) rfl
        have hnm : ∀ d ∈ ts, ∀ x, d.2 = .nam x → lk N S.gv "one" x = valV kvs (Sum.inr x) ∧ ∃ i : Int, valV kvs (Sum.inr x) = some (.int i) := fun d hd' x e => hnames x (names_in ts 3 hd' e)
        have htot : totW kvs ts = sumV N S.gv "one" ts := tot_sum ts fun d hd' x e => (hnm d hd' x e).1
        have hst : stepG N ns go S ("one", j, .set (nm22 f m) ts) = { S with gv := putK S.gv (kN ko) (.int (totW kvs ts)) } := by
          rw [stepG_work hft hoff hear rfl]
          show workS N ns S "one" j (.set (nm22 f m) ts) = _
          simp only [workS, hko', htot]
        refine ⟨_, rfl, r, _, _, _, rfl, rfl, SqT.of (s2 _ _ hrt), atI_nat (j := 0) rfl, rfl, _, rfl, iteSE ?_⟩
        refine ⟨_, rfl, r, _, _, _, rfl, rfl, SqT.of (s2 _ _ hrt), atI_nat (j := 2) rfl, _, rfl, t, VA, ts, kvs, rfl, hts.mono s2.tups, hV2, hd.sg, fun d hd' x e => (hnm d hd' x e).2, ?_⟩
        refine ⟨_, rfl, _, rfl, r, _, _, _, rfl, rfl, SqT.of (s2 _ _ hrt), atI_nat (j := 1) rfl, VA, _, rfl, DPut.k (k := Sum.inr (nm22 f m)) hV2 (small1000 (by omega)), ?_⟩
        have hrt5 : upd H3 VA (.dK (putK kvs (Sum.inr (nm22 f m)) (.int (totW kvs ts)))) r = some (.tup [.str "set", .str (nm22 f m), .ref t]) := by rw [upd_ne (ne_of (s2 _ _ hrt) hV2 (by intro z; cases z))]; exact s2 _ _ hrt
        have b5 : But2 U VA H (upd H3 VA (.dK (putK kvs (Sum.inr (nm22 f m)) (.int (totW kvs ts))))) := b2.put2
        have T5 : Tups H3 (upd H3 VA (.dK (putK kvs (Sum.inr (nm22 f m)) (.int (totW kvs ts))))) := Tups.dK hV2
        have hV5 : upd H3 VA (.dK (putK kvs (Sum.inr (nm22 f m)) (.int (totW kvs ts)))) VA = some (.dK (putK kvs (Sum.inr (nm22 f m)) (.int (totW kvs ts)))) := upd_same
        have hU5 : upd H3 VA (.dK (putK kvs (Sum.inr (nm22 f m)) (.int (totW kvs ts)))) U = some (.lst us0) := by rw [upd_ne py.ne]; exact s2 _ _ hU
        generalize upd H3 VA (.dK (putK kvs (Sum.inr (nm22 f m)) (.int (totW kvs ts)))) = H5 at hrt5 b5 T5 hV5 hU5 ⊢
        refine ⟨_, rfl, r, _, _, _, rfl, rfl, SqT.of hrt5, atI_nat (j := 0) rfl, rfl, _, rfl, iteSN (by decide +kernel) ?_⟩
        refine ⟨_, rfl, r, _, _, _, rfl, rfl, SqT.of hrt5, atI_nat (j := 0) rfl, rfl, _, rfl, iteSN (by decide +kernel) ?_⟩
        refine ⟨_, rfl, r, _, _, _, rfl, rfl, SqT.of hrt5, atI_nat (j := 0) rfl, rfl, _, rfl, iteSN (by decide +kernel) (iteF ?_)⟩
        refine q _ _ b5 ?_ ?_
        · rw [hst]; show FtAt H5 .non S.ft; rw [hft]; rfl
        · rw [hst]
          have := putK_len kvs (Sum.inr (nm22 f m)) (.int (totW kvs ts))
          exact ⟨⟨us0, hU5, Paired.mapP hus0 fun _ _ z => z.mono (s2.tups.trans T5)⟩, ⟨_, hV5, by omega, rel2_put hinj hko' _ hVr⟩, int_put py.gi⟩
      | say ts w hd hw =>
        obtain ⟨t, hrt, hts⟩ := hra
        have hnm : ∀ d ∈ ts, ∀ x, d.2 = .nam x → lk N S.gv "one" x = valV kvs (Sum.inr x) ∧ ∃ i : Int, valV kvs (Sum.inr x) = some (.int i) := fun d hd' x e => hnames x (by
          obtain ⟨e', h1, h2⟩ := names_in ts 1 hd' e
          refine ⟨e', ?_, h2⟩
          cases w with
          | none => exact h1
          | some z => exact List.mem_cons_of_mem _ h1)
        have htot : totW kvs ts = sumV N S.gv "one" ts := tot_sum ts fun d hd' x e => (hnm d hd' x e).1
        have hst : stepG N ns go S ("one", j, .say ts w) = { S with tr := S.tr ++ [((("say" : Str), totW kvs ts, ("one" : Str), j) : Dd)] } := by
          rw [stepG_work hft hoff hear rfl]
          show workS N ns S "one" j (.say ts w) = _
          simp only [workS, htot]
        refine ⟨_, rfl, r, _, _, _, rfl, rfl, SqT.of (s2 _ _ hrt), atI_nat (j := 0) rfl, rfl, _, rfl, iteSN (by decide +kernel) ?_⟩
        refine ⟨_, rfl, r, _, _, _, rfl, rfl, SqT.of (s2 _ _ hrt), atI_nat (j := 0) rfl, rfl, _, rfl, iteSE ?_⟩
        refine ⟨_, rfl, .inl ⟨rfl, _, SqL.of (s2 _ _ hU)⟩, _, rfl, r, _, _, _, rfl, rfl, SqT.of (s2 _ _ hrt), atI_nat (j := 1) rfl, _, rfl, t, VA, ts, kvs, rfl, hts.mono s2.tups, hV2, hd.sg, fun d hd' x e => (hnm d hd' x e).2, _, rfl, (by show 4 ≤ sizeLine; decide), fun pt gpt => ?_⟩
        have s5 : Same H (upd H3 pt (.tup [.str "say", .int (totW kvs ts), .str "one", .int (j : Int)])) := s2.new gpt
        have hpt5 : upd H3 pt (.tup [.str "say", .int (totW kvs ts), .str "one", .int (j : Int)]) pt = some (.tup [.str "say", .int (totW kvs ts), .str "one", .int (j : Int)]) := upd_same
        generalize upd H3 pt (.tup [.str "say", .int (totW kvs ts), .str "one", .int (j : Int)]) = H5 at s5 hpt5 ⊢
        refine ⟨U, _, _, rfl, rfl, s5 _ _ hU, small1000 (by omega), ?_⟩
        have b6 : But2 U VA H (upd H5 U (.lst (us0 ++ [.ref pt]))) := (But2.of s5).put1
        have T6 : Tups H5 (upd H5 U (.lst (us0 ++ [.ref pt]))) := Tups.lst (s5 _ _ hU)
        have hrt6 := T6 _ _ (s5 _ _ hrt)
        have py6 : ∀ S', S'.tr = S.tr ++ [((("say" : Str), totW kvs ts, ("one" : Str), j) : Dd)] → S'.gv = S.gv → Py2 N U VA (n + 1) S' (upd H5 U (.lst (us0 ++ [.ref pt]))) := fun S' e1 e2 => py.said s5 (s5 _ _ hU) ⟨pt, rfl, hpt5⟩ e1 e2
        generalize upd H5 U (.lst (us0 ++ [.ref pt])) = H6 at b6 T6 hrt6 py6 ⊢
        refine ⟨_, rfl, r, _, _, _, rfl, rfl, SqT.of hrt6, atI_nat (j := 0) rfl, rfl, _, rfl, iteSN (by decide +kernel) ?_⟩
        refine ⟨_, rfl, r, _, _, _, rfl, rfl, SqT.of hrt6, atI_nat (j := 0) rfl, rfl, _, rfl, iteSN (by decide +kernel) (iteF ?_)⟩
        refine q _ _ b6 ?_ ?_
        · rw [hst]; show FtAt H6 .non S.ft; rw [hft]; rfl
        · rw [hst]; exact py6 _ rfl rfl
      | ask w hw =>
        have hrt : H r = some (.tup [.str "ask", .str "other", optV w]) := hra
        have hst : stepG N ns go S ("one", j, .ask "other" w) = { S with bg := S.bg ++ [("other" : Str)], tr := S.tr ++ [((("say" : Str), nn, ("other" : Str), 0) : Dd)] } := by
          rw [stepG_ent (q := "other") hft hoff hear rfl, if_neg (hoth w rfl)]
          exact hgo
        refine ⟨_, rfl, r, _, _, _, rfl, rfl, SqT.of (s2 _ _ hrt), atI_nat (j := 0) rfl, rfl, _, rfl, iteSN (by decide +kernel) ?_⟩
        refine ⟨_, rfl, r, _, _, _, rfl, rfl, SqT.of (s2 _ _ hrt), atI_nat (j := 0) rfl, rfl, _, rfl, iteSN (by decide +kernel) ?_⟩
        refine ⟨_, rfl, r, _, _, _, rfl, rfl, SqT.of (s2 _ _ hrt), atI_nat (j := 0) rfl, rfl, _, rfl, iteSE ?_⟩
        refine ⟨_, rfl, .inl ⟨rfl, _, SqL.of (s2 _ _ hU)⟩, _, rfl, (by show 4 ≤ sizeLine; decide), fun pt gpt => ?_⟩
        have s5 : Same H (upd H3 pt (.tup [.str "say", .int nn, .str "other", .int 0])) := s2.new gpt
        have hpt5 : upd H3 pt (.tup [.str "say", .int nn, .str "other", .int 0]) pt = some (.tup [.str "say", .int nn, .str "other", .int 0]) := upd_same
        generalize upd H3 pt (.tup [.str "say", .int nn, .str "other", .int 0]) = H5 at s5 hpt5 ⊢
        refine ⟨U, _, _, rfl, rfl, s5 _ _ hU, small1000 (by omega), ?_⟩
        have b6 : But2 U VA H (upd H5 U (.lst (us0 ++ [.ref pt]))) := (But2.of s5).put1
        have T6 : Tups H5 (upd H5 U (.lst (us0 ++ [.ref pt]))) := Tups.lst (s5 _ _ hU)
        have hrt6 := T6 _ _ (s5 _ _ hrt)
        have py6 : ∀ S', S'.tr = S.tr ++ [((("say" : Str), nn, ("other" : Str), 0) : Dd)] → S'.gv = S.gv → Py2 N U VA (n + 1) S' (upd H5 U (.lst (us0 ++ [.ref pt]))) := fun S' e1 e2 => py.said s5 (s5 _ _ hU) ⟨pt, rfl, hpt5⟩ e1 e2
        generalize upd H5 U (.lst (us0 ++ [.ref pt])) = H6 at b6 T6 hrt6 py6 ⊢
        refine ⟨_, rfl, r, _, _, _, rfl, rfl, SqT.of hrt6, atI_nat (j := 0) rfl, rfl, _, rfl, iteSN (by decide +kernel) (iteF ?_)⟩
        refine q _ _ b6 ?_ ?_
        · rw [hst]; show FtAt H6 .non S.ft; rw [hft]; rfl
        · rw [hst]; exact py6 _ rfl rfl
      | need ts hd =>
        obtain ⟨t, hrt, hts⟩ := hra
        have hnm : ∀ d ∈ ts, ∀ x, d.2 = .nam x → lk N S.gv "one" x = valV kvs (Sum.inr x) ∧ ∃ i : Int, valV kvs (Sum.inr x) = some (.int i) := fun d hd' x e => hnames x (names_in ts 1 hd' e)
        have htot : totW kvs ts = sumV N S.gv "one" ts := tot_sum ts fun d hd' x e => (hnm d hd' x e).1
        have hst : stepG N ns go S ("one", j, .need ts) = if totW kvs ts ≤ 0 then { S with ft := some ("need", "one", j, 0) } else S := by
          rw [stepG_work hft hoff hear rfl]
          show workS N ns S "one" j (.need ts) = _
          simp only [workS, htot]
        refine ⟨_, rfl, r, _, _, _, rfl, rfl, SqT.of (s2 _ _ hrt), atI_nat (j := 0) rfl, rfl, _, rfl, iteSN (by decide +kernel) ?_⟩
        refine ⟨_, rfl, r, _, _, _, rfl, rfl, SqT.of (s2 _ _ hrt), atI_nat (j := 0) rfl, rfl, _, rfl, iteSN (by decide +kernel) ?_⟩
        refine ⟨_, rfl, r, _, _, _, rfl, rfl, SqT.of (s2 _ _ hrt), atI_nat (j := 0) rfl, rfl, _, rfl, iteSN (by decide +kernel) ?_⟩
        refine ⟨_, rfl, r, _, _, _, rfl, rfl, SqT.of (s2 _ _ hrt), atI_nat (j := 0) rfl, rfl, _, rfl, iteSE ?_⟩
        refine ⟨_, rfl, r, _, _, _, rfl, rfl, SqT.of (s2 _ _ hrt), atI_nat (j := 1) rfl, _, rfl, t, VA, ts, kvs, rfl, hts.mono s2.tups, hV2, hd.sg, fun d hd' x e => (hnm d hd' x e).2, _, _, rfl, rfl, _, rfl, ite2 (fun hle => ?_) (fun hle => ?_)⟩
        · have hj : totW kvs ts ≤ 0 := of_decide_eq_true hle
          rw [if_pos hj] at hst
          refine ⟨_, rfl, (by show 4 ≤ sizeLine; decide), fun ft gft => ?_⟩
          have s3 : Same H (upd H3 ft (.tup [.str "need", .str "one", .int (j : Int), .int 0])) := s2.new gft
          refine q _ _ (But2.of s3) ?_ ?_
          · rw [hst]; exact ⟨ft, rfl, upd_same⟩
          · rw [hst]; exact py.up s3 rfl rfl
        · have hj : ¬ totW kvs ts ≤ 0 := fun z => hle (decide_eq_true z)
          rw [if_neg hj] at hst
          refine q _ _ b2 ?_ ?_
          · rw [hst, hft]; rfl
          · rw [hst]; exact py.up s2 rfl rfl
noncomputable def takesL (f : Int) (m : Nat) : List Rw := (List.range m).map fun k => .take (nm22 f k)
noncomputable def isSet : Rw → Bool
  | .set _ _ => true
  | _ => false
noncomputable def lstR (f : Int) (m : Nat) (rw : Rw) : Rw := if isSet rw = true then .say [(1, .nam (nm22 f m))] none else .say [(1, .num 9)] none
noncomputable def rows22 (f : Int) (m pl : Nat) (rw : Rw) : List Rw := (takesL f m).take pl ++ (rw :: ((takesL f m).drop pl ++ [lstR f m rw]))
theorem takesL_len (f : Int) (m : Nat) : (takesL f m).length = m := by unfold takesL; rw [List.length_map, List.length_range]
theorem takesL_own (f : Int) (m : Nat) : (takesL f m).filterMap ownOf = nmsM f m := by
  unfold takesL nmsM
  rw [List.filterMap_map]
  generalize List.range m = l
  induction l with
  | nil => rfl
  | cons a l ih => rw [List.filterMap_cons, List.map_cons, ← ih]; rfl
theorem lstR_own (f : Int) (m : Nat) (rw : Rw) : ownOf (lstR f m rw) = none := by unfold lstR; split <;> rfl
theorem rows22_own (f : Int) (m pl : Nat) (rw : Rw) : (rows22 f m pl rw).filterMap ownOf = ((takesL f m).take pl).filterMap ownOf ++ ((ownOf rw).toList ++ ((takesL f m).drop pl).filterMap ownOf) := by
  unfold rows22
  rw [List.filterMap_append, List.filterMap_cons, List.filterMap_append, List.filterMap_cons, lstR_own]
  cases ownOf rw <;> simp
theorem own_split (f : Int) (m pl : Nat) : nmsM f m = ((takesL f m).take pl).filterMap ownOf ++ ((takesL f m).drop pl).filterMap ownOf := by rw [← takesL_own, ← List.filterMap_append, List.take_append_drop]
theorem rows22_len {f : Int} {m pl : Nat} {rw : Rw} (h : pl ≤ m) : (rows22 f m pl rw).length = m + 2 := by
  unfold rows22
  rw [List.length_append, List.length_cons, List.length_append, List.length_take, List.length_drop, takesL_len]
  simp; omega
theorem rows22_in {f : Int} {m pl : Nat} {rw : Rw} {x : Str} (h : x ∈ nmsM f m) : x ∈ (rows22 f m pl rw).filterMap ownOf := by
  rw [rows22_own]
  rw [own_split f m pl] at h
  rcases List.mem_append.mp h with z | z
  · exact List.mem_append_left _ z
  · exact List.mem_append_right _ (List.mem_append_right _ z)
theorem rows22_set {f : Int} {m pl : Nat} {ts : List (Int × Th)} : nm22 f m ∈ (rows22 f m pl (.set (nm22 f m) ts)).filterMap ownOf := by
  rw [rows22_own]
  exact List.mem_append_right _ (List.mem_append_left _ (by simp [ownOf]))
theorem rows22_nd {f : Int} {m pl : Nat} {rw : Rw} (hR : Row22 f m rw) : ((rows22 f m pl rw).filterMap ownOf).Nodup := by
  rw [rows22_own]
  have hn := nmsM_nd f m
  have hm := own_split f m pl
  have hnew : nm22 f m ∉ nmsM f m := fun h => by
    obtain ⟨j, hj, e⟩ := List.mem_map.mp h
    have := nm22_inj e
    have := List.mem_range.mp hj
    omega
  rw [hm] at hn hnew
  obtain ⟨n1, n2, n3⟩ := List.nodup_append.mp hn
  cases hR with
  | set ts hd =>
    refine List.nodup_append.mpr ⟨n1, ?_, fun a ha b hb => ?_⟩
    · show (nm22 f m :: _).Nodup
      exact List.nodup_cons.mpr ⟨fun z => hnew (List.mem_append_right _ z), n2⟩
    · rcases List.mem_cons.mp (show b ∈ nm22 f m :: _ from hb) with z | z
      · rw [z]; intro w; exact hnew (List.mem_append_left _ (w ▸ ha))
      · exact n3 a ha b z
  | say ts w hd hw => exact hn
  | ask w hw => exact hn
  | need ts hd => exact hn
theorem rwG_take {nms X : List Str} {x : Str} (h : x ∈ X) : RwG nms X (.take x) := ⟨⟨rfl, rfl⟩, fun d hd => by simp [rdR] at hd, fun o ho => by cases ho; exact h, fun d hd => by simp [sgR] at hd, fun d hd => by simp [sgR] at hd, fun q hq => (by rcases hq with ⟨_, z⟩ | ⟨_, z⟩ <;> cases z), rfl⟩
theorem names_sub {x : Str} : ∀ (ts : List (Int × Th)) (k : Int) {e : Int × Str}, e ∈ L2.namesOf k ts → ∃ d ∈ ts, d.2 = .nam e.2
  | [], _, _, h => by simp [L2.namesOf] at h
  | (s, .num n) :: ts, k, e, h => by
    obtain ⟨d, h1, h2⟩ := names_sub (x := x) ts (k + 2) (show e ∈ L2.namesOf (k + 2) ts from h)
    exact ⟨d, List.mem_cons_of_mem _ h1, h2⟩
  | (s, .nam y) :: ts, k, e, h => by
    rcases List.mem_cons.mp (show e ∈ (k, y) :: L2.namesOf (k + 2) ts from h) with z | z
    · rw [z]; exact ⟨_, List.mem_cons_self .., rfl⟩
    · obtain ⟨d, h1, h2⟩ := names_sub (x := x) ts (k + 2) z
      exact ⟨d, List.mem_cons_of_mem _ h1, h2⟩
theorem rwG_row {X : List Str} {f : Int} {m : Nat} {rw : Rw} (hR : Row22 f m rw) (hX : ∀ x ∈ nmsM f m, x ∈ X) (hs : ∀ ts, rw = .set (nm22 f m) ts → nm22 f m ∈ X) : RwG (["other", "one"] : List Str) X rw := by
  have hns : ∀ (m' : Nat) (ts : List (Int × Th)) (k : Int), Dr f m' ts → (∀ x ∈ nmsM f m', x ∈ X) → ∀ d ∈ L2.namesOf k ts, d.2 ∈ X := fun m' ts k hd hx d hdm => by
    obtain ⟨e, h1, h2⟩ := names_sub (x := d.2) ts k hdm
    exact hx _ (hd.nm e h1 _ h2)
  cases hR with
  | set ts hd =>
    have hX' : ∀ x ∈ nmsM f (m + 1), x ∈ X := fun x hx => by
      rw [nmsM_snoc] at hx
      rcases List.mem_append.mp hx with z | z
      · exact hX x z
      · rw [List.mem_singleton.mp z]; exact hs ts rfl
    exact ⟨⟨rfl, rfl⟩, hns (m + 1) ts 3 hd hX', fun o ho => by cases ho; exact hs ts rfl, hd.sg, fun d hd' x e => names_in ts 3 hd' e, fun q hq => (by rcases hq with ⟨_, z⟩ | ⟨_, z⟩ <;> cases z), rfl⟩
  | say ts w hd hw =>
    refine ⟨⟨rfl, rfl⟩, fun d hd' => ?_, (fun o ho => by cases ho), hd.sg, fun d hd' x e => ?_, fun q hq => (by rcases hq with ⟨_, z⟩ | ⟨_, z⟩ <;> cases z), rfl⟩
    · cases w with
      | none => exact hns m ts 1 hd hX d hd'
      | some x =>
        rcases List.mem_cons.mp (show d ∈ (2 * (ts.length : Int) + 1, x) :: L2.namesOf 1 ts from hd') with z | z
        · rw [z]; exact hX x (hw x rfl)
        · exact hns m ts 1 hd hX d z
    · obtain ⟨e', h1, h2⟩ := names_in ts 1 hd' e
      refine ⟨e', ?_, h2⟩
      cases w with
      | none => exact h1
      | some z => exact List.mem_cons_of_mem _ h1
  | ask w hw =>
    refine ⟨⟨rfl, rfl⟩, fun d hd' => ?_, (fun o ho => by cases ho), fun d hd => by simp [sgR] at hd, fun d hd => by simp [sgR] at hd, fun q hq => ?_, rfl⟩
    · cases w with
      | none => simp [rdR] at hd'
      | some x =>
        have hd2 : d = (3, x) := by simpa [rdR] using hd'
        rw [hd2]; exact hX x (hw x rfl)
    · rcases hq with ⟨_, z⟩ | ⟨_, z⟩
      · cases z
      · cases z; simp
  | need ts hd => exact ⟨⟨rfl, rfl⟩, hns m ts 1 hd hX, (fun o ho => by cases ho), hd.sg, fun d hd' x e => names_in ts 1 hd' e, fun q hq => (by rcases hq with ⟨_, z⟩ | ⟨_, z⟩ <;> cases z), rfl⟩
theorem lst_row22 {f : Int} {m : Nat} (rw : Rw) : Row22 f (m + 1) (lstR f m rw) := by
  unfold lstR
  split
  · refine .say _ none ⟨fun d hd => by rw [List.mem_singleton.mp hd]; exact .inl rfl, fun d hd x e => ?_⟩ (fun x e => by cases e)
    rw [List.mem_singleton.mp hd] at e
    cases e
    exact nmsM_mem (by omega)
  · exact .say _ none ⟨fun d hd => by rw [List.mem_singleton.mp hd]; exact .inl rfl, fun d hd x e => by rw [List.mem_singleton.mp hd] at e; cases e⟩ (fun x e => by cases e)
theorem rwG_lst {X : List Str} {f : Int} {m : Nat} {rw : Rw} (h : isSet rw = true → nm22 f m ∈ X) : RwG (["other", "one"] : List Str) X (lstR f m rw) := by
  unfold lstR
  by_cases hs : isSet rw = true
  · rw [if_pos hs]
    refine ⟨⟨rfl, rfl⟩, fun d hd => ?_, (fun o ho => by cases ho), fun d hd => by rw [List.mem_singleton.mp hd]; exact .inl rfl, fun d hd x e => ?_, fun q hq => (by rcases hq with ⟨_, z⟩ | ⟨_, z⟩ <;> cases z), rfl⟩
    · rw [List.mem_singleton.mp (show d ∈ [((1 : Int), nm22 f m)] from hd)]; exact h hs
    · rw [List.mem_singleton.mp hd] at e
      cases e
      exact ⟨_, List.mem_singleton.mpr rfl, rfl⟩
  · rw [if_neg hs]
    exact ⟨⟨rfl, rfl⟩, fun d hd => by simp [rdR, L2.namesOf] at hd, (fun o ho => by cases ho), fun d hd => by rw [List.mem_singleton.mp hd]; exact .inl rfl, (fun d hd x e => by rw [List.mem_singleton.mp hd] at e; cases e), fun q hq => (by rcases hq with ⟨_, z⟩ | ⟨_, z⟩ <;> cases z), rfl⟩
noncomputable def ps22 (nn : Int) (R : List Rw) : List Pt := [("other", [.say [(1, .num nn)] none]), ("one", R)]
theorem ps22_ok {f nn : Int} {m pl : Nat} {rw : Rw} (hm : m ≤ 5) (hpl : pl ≤ m) (hR : Row22 f m rw) : PGn (ps22 nn (rows22 f m pl rw)) := by
  have hlen := rows22_len (f := f) (rw := rw) hpl
  have hset : isSet rw = true → nm22 f m ∈ (rows22 f m pl rw).filterMap ownOf := fun h => by
    cases hR with
    | set ts hd => exact rows22_set
    | _ => cases h
  have hone : ∀ r ∈ rows22 f m pl rw, RwG (["other", "one"] : List Str) ((rows22 f m pl rw).filterMap ownOf) r := fun r hr => by
    have htk : ∀ r ∈ takesL f m, RwG (["other", "one"] : List Str) ((rows22 f m pl rw).filterMap ownOf) r := fun r hr => by
      obtain ⟨k, hk, e⟩ := List.mem_map.mp hr
      rw [← e]
      exact rwG_take (rows22_in (nmsM_mem (List.mem_range.mp hk)))
    rcases List.mem_append.mp (show r ∈ (takesL f m).take pl ++ (rw :: ((takesL f m).drop pl ++ [lstR f m rw])) from hr) with z | z
    · exact htk r (List.mem_of_mem_take z)
    · rcases List.mem_cons.mp z with z | z
      · rw [z]
        exact rwG_row hR (fun x hx => rows22_in hx) (fun ts e => by rw [e]; exact rows22_set)
      · rcases List.mem_append.mp z with z | z
        · exact htk r (List.mem_of_mem_drop z)
        · rw [List.mem_singleton.mp z]
          exact rwG_lst hset
  refine ⟨⟨by show (["other", "one"] : List Str).Nodup; decide +kernel, by show 2 ≤ 24; decide, fun pt hpt => ?_⟩, by show 0 < 2; decide, ?_, fun pt hpt r hr => ?_, fun pt hpt => ?_⟩
  · rcases List.mem_cons.mp hpt with z | z
    · rw [z]; show 1 ≤ 40; decide
    · rw [List.mem_singleton.mp z]; show (rows22 f m pl rw).length ≤ 40; omega
  · show 1 + ((rows22 f m pl rw).length + 0) ≤ 64; omega
  · rcases List.mem_cons.mp hpt with z | z
    · rw [z] at hr ⊢
      rw [List.mem_singleton.mp hr]
      exact ⟨⟨rfl, rfl⟩, fun d hd => by simp [rdR, L2.namesOf] at hd, (fun o ho => by cases ho), fun d hd => by rw [List.mem_singleton.mp hd]; exact .inl rfl, (fun d hd x e => by rw [List.mem_singleton.mp hd] at e; cases e), fun q hq => (by rcases hq with ⟨_, z⟩ | ⟨_, z⟩ <;> cases z), rfl⟩
    · have hz := List.mem_singleton.mp z
      rw [hz] at hr ⊢
      exact hone r hr
  · rcases List.mem_cons.mp hpt with z | z
    · rw [z]; exact List.nodup_nil
    · rw [List.mem_singleton.mp z]; exact rows22_nd hR
noncomputable def tb (pl i : Nat) : Nat := if i ≤ pl then i else i - 1
theorem rows_at {f : Int} {m pl i : Nat} {rw r : Rw} (hpl : pl ≤ m) (h : (rows22 f m pl rw)[i]? = some r) : (r = .take (nm22 f (tb pl i)) ∧ tb pl i < m ∧ i ≠ pl ∧ i ≤ m) ∨ (r = rw ∧ i = pl) ∨ (r = lstR f m rw ∧ i = m + 1) := by
  have hA : ((takesL f m).take pl).length = pl := by rw [List.length_take, takesL_len]; omega
  have hB : ((takesL f m).drop pl).length = m - pl := by rw [List.length_drop, takesL_len]
  have htk : ∀ k r', (takesL f m)[k]? = some r' → r' = .take (nm22 f k) ∧ k < m := fun k r' h => by
    have hk : k < m := by
      by_cases z : k < m
      · exact z
      · rw [List.getElem?_eq_none (by rw [takesL_len]; omega)] at h; cases h
    unfold takesL at h
    rw [List.getElem?_map, List.getElem?_range hk] at h
    exact ⟨(Option.some.inj h).symm, hk⟩
  unfold rows22 at h
  by_cases h1 : i < pl
  · rw [List.getElem?_append_left (by rw [hA]; exact h1), List.getElem?_take, if_pos h1] at h
    obtain ⟨e1, e2⟩ := htk i r h
    have : tb pl i = i := by unfold tb; rw [if_pos (by omega)]
    exact .inl ⟨by rw [this]; exact e1, by omega, by omega, by omega⟩
  · rw [List.getElem?_append_right (by rw [hA]; omega), hA] at h
    by_cases h2 : i = pl
    · rw [h2, Nat.sub_self, List.getElem?_cons_zero] at h
      exact .inr (.inl ⟨(Option.some.inj h).symm, h2⟩)
    · obtain ⟨j, hj⟩ : ∃ j, i - pl = j + 1 := ⟨i - pl - 1, by omega⟩
      rw [hj, List.getElem?_cons_succ] at h
      by_cases h3 : j < m - pl
      · rw [List.getElem?_append_left (by rw [hB]; exact h3), List.getElem?_drop] at h
        obtain ⟨e1, e2⟩ := htk _ r h
        have : tb pl i = pl + j := by unfold tb; rw [if_neg (by omega)]; omega
        exact .inl ⟨by rw [this]; exact e1, by omega, h2, by omega⟩
      · rw [List.getElem?_append_right (by rw [hB]; omega), hB] at h
        have hj2 : j - (m - pl) = 0 := by
          by_cases z : j - (m - pl) = 0
          · exact z
          · rw [List.getElem?_eq_none (by simp; omega)] at h; cases h
        rw [hj2] at h
        exact .inr (.inr ⟨(Option.some.inj h).symm, by omega⟩)
noncomputable def cntT (l : List Dd) : Nat := (l.filter fun d => !decide (d.1 = ("say" : Str))).length
noncomputable def cntS (l : List Dd) : Nat := (l.filter fun d => decide (d.1 = ("say" : Str))).length
theorem cnt_sum (l : List Dd) : cntS l + cntT l = l.length := by
  unfold cntS cntT
  induction l with
  | nil => rfl
  | cons a l ih =>
    rw [List.filter_cons, List.filter_cons]
    by_cases h : a.1 = ("say" : Str)
    · rw [if_pos (by simp [h]), if_neg (by simp [h]), List.length_cons, List.length_cons]; omega
    · rw [if_neg (by simp [h]), if_pos (by simp [h]), List.length_cons, List.length_cons]; omega
theorem cntT_say (l : List Dd) (i : Int) (p : Str) (j : Nat) : cntT (l ++ [(("say" : Str), i, p, j)]) = cntT l := by
  unfold cntT
  rw [List.filter_append]
  simp
theorem cntT_take (l : List Dd) (i : Int) (p : Str) (j : Nat) : cntT (l ++ [(("take" : Str), i, p, j)]) = cntT l + 1 := by
  unfold cntT
  rw [List.filter_append, List.length_append]
  have : (!decide (("take" : Str) = ("say" : Str))) = true := by decide +kernel
  rw [List.filter_cons, if_pos this]
  rfl
theorem go_other {nn : Int} {R : List Rw} {ns : List Int} {d : Nat} {S : GS} (hft : S.ft = none) : begG (netG (ps22 nn R)) ns (d + 1) "other" S = { S with bg := S.bg ++ [("other" : Str)], tr := S.tr ++ [((("say" : Str), nn, ("other" : Str), 0) : Dd)] } := by
  have hr : rowsN (netG (ps22 nn R)) "other" = [.say [(1, .num nn)] none] := rfl
  show (idxRows "other" (rowsN (netG (ps22 nn R)) "other")).foldl _ _ = _
  rw [hr]
  show stepG (netG (ps22 nn R)) ns (begG (netG (ps22 nn R)) ns d) { S with bg := S.bg ++ [("other" : Str)] } ("other", 0, .say [(1, .num nn)] none) = _
  rw [stepG_work (S := { S with bg := S.bg ++ [("other" : Str)] }) hft rfl rfl rfl]
  show workS _ ns { S with bg := S.bg ++ [("other" : Str)] } "other" 0 (.say [(1, .num nn)] none) = _
  have hs : sumV (netG (ps22 nn R)) S.gv "other" [(1, .num nn)] = nn := by show 0 + 1 * nn = _; omega
  simp only [workS, hs]
theorem done_tk {N : Nt} {ns : List Int} {go : Str → GS → GS} {S : GS} {f nn : Int} {m j : Nat} {rw : Rw} (hR : Row22 f m rw) (hft : S.ft = none) (hgo : go "other" S = { S with bg := S.bg ++ [("other" : Str)], tr := S.tr ++ [((("say" : Str), nn, ("other" : Str), 0) : Dd)] }) : (stepG N ns go S ("one", j, rw)).tk = S.tk ∧ cntT (stepG N ns go S ("one", j, rw)).tr = cntT S.tr ∧ (stepG N ns go S ("one", j, rw)).tr.length ≤ S.tr.length + 1 := by
  cases ho : offR N S.gv "one" rw with
  | true => rw [stepG_off hft ho]; exact ⟨rfl, rfl, Nat.le_succ _⟩
  | false =>
    cases he : earlyR N S.gv "one" rw with
    | some w => rw [stepG_early hft ho he]; exact ⟨rfl, rfl, Nat.le_succ _⟩
    | none =>
      cases hR with
      | set ts hd =>
        rw [stepG_work hft ho he rfl]
        show (workS N ns S "one" j (.set (nm22 f m) ts)).tk = S.tk ∧ cntT (workS N ns S "one" j (.set (nm22 f m) ts)).tr = cntT S.tr ∧ (workS N ns S "one" j (.set (nm22 f m) ts)).tr.length ≤ _
        simp only [workS]
        split <;> exact ⟨rfl, rfl, Nat.le_succ _⟩
      | say ts w hd hw =>
        rw [stepG_work hft ho he rfl]
        exact ⟨rfl, cntT_say _ _ _ _, by show (S.tr ++ [_]).length ≤ _; rw [List.length_append]; exact Nat.le_refl _⟩
      | ask w hw =>
        rw [stepG_ent (q := "other") hft ho he rfl]
        split
        · exact ⟨rfl, rfl, Nat.le_succ _⟩
        · rw [hgo]
          exact ⟨rfl, cntT_say _ _ _ _, by show (S.tr ++ [_]).length ≤ _; rw [List.length_append]; exact Nat.le_refl _⟩
      | need ts hd =>
        rw [stepG_work hft ho he rfl]
        show (workS N ns S "one" j (.need ts)).tk = S.tk ∧ cntT (workS N ns S "one" j (.need ts)).tr = cntT S.tr ∧ (workS N ns S "one" j (.need ts)).tr.length ≤ _
        simp only [workS]
        split <;> exact ⟨rfl, rfl, Nat.le_succ _⟩
theorem paired_app2 {α β : Type} {F : α → β → Prop} : ∀ {xs us : List α} {ys ws : List β}, Paired F xs ys → Paired F us ws → Paired F (xs ++ us) (ys ++ ws)
  | _, _, _, _, .nil, k => k
  | _, _, _, _, .cons h t, k => .cons h (paired_app2 t k)
theorem paired_takeN {α β : Type} {F : α → β → Prop} : ∀ {xs : List α} {ys : List β} (k : Nat), Paired F xs ys → Paired F (xs.take k) (ys.take k)
  | _, _, 0, _ => .nil
  | _, _, k + 1, .nil => .nil
  | _, _, k + 1, .cons h t => .cons h (paired_takeN k t)
theorem paired_dropN {α β : Type} {F : α → β → Prop} : ∀ {xs : List α} {ys : List β} (k : Nat), Paired F xs ys → Paired F (xs.drop k) (ys.drop k)
  | _, _, 0, h => h
  | _, _, k + 1, .nil => .nil
  | _, _, k + 1, .cons h t => paired_dropN k t
theorem cut_lo {xs : List V} {k : Nat} (h : k ≤ xs.length) : cutV xs none (some ((k : Nat) : Int)) = xs.take k := by
  unfold cutV
  rw [HT.sIx_none, HT.sIx_nat, List.drop_zero, Nat.sub_zero, Nat.min_eq_left h]
theorem cut_hi {xs : List V} {k : Nat} (h : k ≤ xs.length) : cutV xs (some ((k : Nat) : Int)) none = xs.drop k := by
  unfold cutV
  rw [HT.sIx_none, HT.sIx_nat, Nat.min_eq_left h, List.take_of_length_le (by rw [List.length_drop]; omega)]
theorem if_toH {t : TT} {te : TE} {R : TS} {D : Ends} {i : Nat} {σ : L2.St} {H : Hp} {r : VK} {b k : L2.St → Hp → Prop} {v : V} (J : V → Hp → Prop) (ht : ∃ bb : Bool, (∀ Q : Bool → Hp → Prop, Q bb H → t (σ.set i (some v)) H Q) ∧ (bb = true → ∀ Q : VK, (∀ x H', Same H H' → J x H' → Q x H') → te (σ.set i (some v)) H Q) ∧ (bb = false → J v H)) (hR : ∀ x H', Same H H' → J x H' → R D (σ.set i (some x)) H') : gName i v σ H (Ends.nx ⟨tSeq (tIfS t (tAsg te (gName i)) tNext) R D, r, b, k⟩) := by
  obtain ⟨bb, h1, h2, h3⟩ := ht
  refine h1 _ ?_
  cases bb with
  | true =>
    refine iteT (h2 rfl _ fun x H' s' j => ?_)
    show R D ((σ.set i (some v)).set i (some x)) H'
    rw [List.set_set]
    exact hR x H' s' j
  | false => exact iteF (hR v H (Same.refl H) (h3 rfl))
theorem But2.trans {a b : Addr} {H H1 H2 : Hp} (h : But2 a b H H1) (s : But2 a b H1 H2) : But2 a b H H2 := fun c o h1 h2 h3 => s c o h1 h2 (h c o h1 h2 h3)
theorem But2.tups2 {a b : Addr} {H H' : Hp} {xs : List V} {kvs : List (Key × V)} (h : But2 a b H H') (ha : H a = some (.lst xs)) (hb : H b = some (.dK kvs)) : Tups H H' := fun c zs e => h c _ (fun z => by rw [z, ha] at e; cases e) (fun z => by rw [z, hb] at e; cases e) e
theorem row_kind {H : Hp} {r : Addr} {rw : Rw} {f : Int} {m : Nat} (hR : Row22 f m rw) (h : RowAt H r rw) : ∃ (kd : Str) (rest : List V), H r = some (.tup (.str kd :: rest)) ∧ ¬ kd = ("take" : Str) ∧ (kd = ("set" : Str) ↔ isSet rw = true) := by
  cases hR with
  | set ts hd => obtain ⟨t, h1, _⟩ := h; exact ⟨_, _, h1, by decide +kernel, fun _ => rfl, fun _ => rfl⟩
  | say ts w hd hw => obtain ⟨t, h1, _⟩ := h; exact ⟨_, _, h1, by decide +kernel, fun z => absurd z (by decide +kernel), fun z => by cases z⟩
  | ask w hw => exact ⟨_, _, h, by decide +kernel, fun z => absurd z (by decide +kernel), fun z => by cases z⟩
  | need ts hd => obtain ⟨t, h1, _⟩ := h; exact ⟨_, _, h1, by decide +kernel, fun z => absurd z (by decide +kernel), fun z => by cases z⟩
theorem law_fn {fn : Addr} {fd : FuncData} (F : Fun K "law" "law" s_law fn fd) (T : Tc K mg CP CG) : FnOk P w K mg base CX0 20 fn fd ["_law_script"] (spLaw K) := by
  have C_law_cell_at := ok_cell (P := P) (w := w) (base := base) T.toTxt
  have C_law_number := ok_number (P := P) (w := w) (base := base) T.toTxt
  have C_law_name := ok_nameL (P := P) (w := w) (base := base) T.toTxt
  have C_law_row := ok_row22 (P := P) (w := w) (base := base) T.toTxt
  have C_law_done := ok_done (P := P) (w := w) (base := base) T.toTxt
  have C_law_kinds := ok_kinds (P := P) (w := w) (base := base) T.toTxt
  have C_run := ok_run (P := P) (w := w) (base := base) T
  refine F.ok sc_law (fun vs H Q E h => ?_) (fun cdv A outer s H vs Q E hr h => ?_)
  · obtain ⟨a, ns, rfl, _⟩ := h
    rfl
  · obtain ⟨a, sc, rfl, hS, hlen, q⟩ := h
    have hu := hu_of hr
    have hu4 := Nat.lt_of_le_of_lt (Nat.add_le_add_left (by decide : 4 ≤ 64) _) hr.units
    refine ⟨_, (@pss_cons _ _ _ _ _ (@ps_set _ _ (1) _ _ _ _ sc_law.nd rfl (Or.inr rfl) (@pe_fn _ _ _ _ _ _ _ _ _ _ _ C_law_cell_at hr (by rfl) (@pa_cons _ _ _ _ _ (@pv _ 0 _ _ (by rfl) (by first   | exact Or.inl rfl   | exact Or.inr (Or.inl rfl)   | exact Or.inr (Or.inr rfl)) (by decide) (by decide)) (@pa_cons _ _ _ _ _ (@pe_int _ _ _ _) (@pa_nil _) (by rfl)) (by rfl)) (by decide) (by decide) (by rfl) (by rfl)) (by rfl) (by first   | exact .inl rfl   | exact .inr rfl   | assumption)) (@pss_cons _ _ _ _ _ (@ps_set _ _ (2) _ _ _ _ sc_law.nd rfl (Or.inl rfl) (@pe_op _ _ _ _ _ _ _ _ (@op_add _) (@pe_int _ _ _ _) (@pe_op _ _ _ _ _ _ _ _ (@op_mod _) (@pe_fn _ _ _ _ _ _ _ _ _ _ _ C_law_cell_at hr (by rfl) (@pa_cons _ _ _ _ _ (@pv _ 0 _ _ (by rfl) (by first   | exact Or.inl rfl   | exact Or.inr (Or.inl rfl)   | exact Or.inr (Or.inr rfl)) (by decide) (by decide)) (@pa_cons _ _ _ _ _ (@pe_int _ _ _ _) (@pa_nil _) (by rfl)) (by rfl)) (by decide) (by decide) (by rfl) (by rfl)) (@pe_int _ _ _ _))) (by rfl) (by first   | exact .inl rfl   | exact .inr rfl   | assumption)) (@pss_cons _ _ _ _ _ (@ps_set _ _ (3) _ _ _ _ sc_law.nd rfl (Or.inl rfl) (@pe_op _ _ _ _ _ _ _ _ (@op_mod _) (@pe_fn _ _ _ _ _ _ _ _ _ _ _ C_law_cell_at hr (by rfl) (@pa_cons _ _ _ _ _ (@pv _ 0 _ _ (by rfl) (by first   | exact Or.inl rfl   | exact Or.inr (Or.inl rfl)   | exact Or.inr (Or.inr rfl)) (by decide) (by decide)) (@pa_cons _ _ _ _ _ (@pe_int _ _ _ _) (@pa_nil _) (by rfl)) (by rfl)) (by decide) (by decide) (by rfl) (by rfl)) (@pe_op _ _ _ _ _ _ _ _ (@op_add _) (@pv _ 2 _ _ (by rfl) (by first   | exact Or.inl rfl   | exact Or.inr (Or.inl rfl)   | exact Or.inr (Or.inr rfl)) (by decide) (by decide)) (@pe_int _ _ _ _))) (by rfl) (by first   | exact .inl rfl   | exact .inr rfl   | assumption)) (@pss_cons _ _ _ _ _ (@ps_set _ _ (4) _ _ _ _ sc_law.nd rfl (Or.inl rfl) (@pe_fn _ _ _ _ _ _ _ _ _ _ _ C_law_row hr (by rfl) (@pa_cons _ _ _ _ _ (@pv _ 0 _ _ (by rfl) (by first   | exact Or.inl rfl   | exact Or.inr (Or.inl rfl)   | exact Or.inr (Or.inr rfl)) (by decide) (by decide)) (@pa_cons _ _ _ _ _ (@pv _ 1 _ _ (by rfl) (by first   | exact Or.inl rfl   | exact Or.inr (Or.inl rfl)   | exact Or.inr (Or.inr rfl)) (by decide) (by decide)) (@pa_cons _ _ _ _ _ (@pv _ 2 _ _ (by rfl) (by first   | exact Or.inl rfl   | exact Or.inr (Or.inl rfl)   | exact Or.inr (Or.inr rfl)) (by decide) (by decide)) (@pa_nil _) (by rfl)) (by rfl)) (by rfl)) (by decide) (by decide) (by rfl) (by rfl)) (by rfl) (by first   | exact .inl rfl   | exact .inr rfl   | assumption)) (@pss_cons _ _ _ _ _ (@ps_setC _ _ _ _ _ _ _ (["_law_k", "_law_script"]) ([none, some 0]) _ _ _ _ (5) _ _ _ (defScope s_law) ["_law_script", "_law_form", "_law_many", "_law_place", "_law_row_here", "_law_told", "_law_rows", "_law_last", "_law_number_here", "_law_due", "_law_values", "_law_fault", "_law_k", "_law_parts", "_law_found"] ⟨rfl, by decide +kernel, by decide +kernel, by decide +kernel, rfl, by decide +kernel, by decide +kernel⟩ sc_law.nd rfl (Or.inl rfl) (@pi_range1 _ _ _ _ _ _ (by rfl) T.n_range (@pa_cons _ _ _ _ _ (@pv _ 2 _ _ (by rfl) (by first   | exact Or.inl rfl   | exact Or.inr (Or.inl rfl)   | exact Or.inr (Or.inr rfl)) (by decide) (by decide)) (@pa_nil _) (by rfl)) (by rfl)) (fun _ _ _ _ _ _ => (@pg_name _ _ (0) _ (show (["_law_k", "_law_script"] : List Str).Nodup by decide +kernel) rfl (Or.inl rfl) (by first   | exact .inl rfl   | exact .inr rfl   | assumption))) (fun _ _ _ _ _ _ => @pts_nil _) (fun _ _ _ _ _ _ => (@pe_fn _ _ _ _ _ _ _ _ _ _ _ C_law_number hr (by rfl) (@pa_cons _ _ _ _ _ (@pe_fn _ _ _ _ _ _ _ _ _ _ _ C_law_cell_at hr (by rfl) (@pa_cons _ _ _ _ _ (@pv _ 1 _ _ (by rfl) (by first   | exact Or.inl rfl   | exact Or.inr (Or.inl rfl)   | exact Or.inr (Or.inr rfl)) (by decide) (by decide)) (@pa_cons _ _ _ _ _ (@pe_op _ _ _ _ _ _ _ _ (@op_add _) (@pe_int _ _ _ _) (@pv _ 0 _ _ (by rfl) (by first   | exact Or.inl rfl   | exact Or.inr (Or.inl rfl)   | exact Or.inr (Or.inr rfl)) (by decide) (by decide))) (@pa_nil _) (by rfl)) (by rfl)) (by decide) (by decide) (by rfl) (by rfl)) (@pa_nil _) (by rfl)) (by decide) (by decide) (by rfl) (by rfl))) (by rfl) (by rfl) (by rfl) (by rfl) (by intro _; rfl) (by first   | exact .inl rfl   | exact .inr rfl   | assumption)) (@pss_cons _ _ _ _ _ (@ps_setC _ _ _ _ _ _ _ (["_law_k", "_law_form"]) ([none, some 1]) _ _ _ _ (6) _ _ _ (defScope s_law) ["_law_script", "_law_form", "_law_many", "_law_place", "_law_row_here", "_law_told", "_law_rows", "_law_last", "_law_number_here", "_law_due", "_law_values", "_law_fault", "_law_k", "_law_parts", "_law_found"] ⟨rfl, by decide +kernel, by decide +kernel, by decide +kernel, rfl, by decide +kernel, by decide +kernel⟩ sc_law.nd rfl (Or.inl rfl) (@pi_range1 _ _ _ _ _ _ (by rfl) T.n_range (@pa_cons _ _ _ _ _ (@pv _ 2 _ _ (by rfl) (by first   | exact Or.inl rfl   | exact Or.inr (Or.inl rfl)   | exact Or.inr (Or.inr rfl)) (by decide) (by decide)) (@pa_nil _) (by rfl)) (by rfl)) (fun _ _ _ _ _ _ => (@pg_name _ _ (0) _ (show (["_law_k", "_law_form"] : List Str).Nodup by decide +kernel) rfl (Or.inl rfl) (by first   | exact .inl rfl   | exact .inr rfl   | assumption))) (fun _ _ _ _ _ _ => @pts_nil _) (fun _ _ _ _ _ _ => (@pe_tup _ _ _ _ _ (@pa_cons _ _ _ _ _ (@pe_str _ _ _ _) (@pa_cons _ _ _ _ _ (@pe_fn _ _ _ _ _ _ _ _ _ _ _ C_law_name hr (by rfl) (@pa_cons _ _ _ _ _ (@pv _ 1 _ _ (by rfl) (by first   | exact Or.inl rfl   | exact Or.inr (Or.inl rfl)   | exact Or.inr (Or.inr rfl)) (by decide) (by decide)) (@pa_cons _ _ _ _ _ (@pv _ 0 _ _ (by rfl) (by first   | exact Or.inl rfl   | exact Or.inr (Or.inl rfl)   | exact Or.inr (Or.inr rfl)) (by decide) (by decide)) (@pa_nil _) (by rfl)) (by rfl)) (by decide) (by decide) (by rfl) (by rfl)) (@pa_nil _) (by rfl)) (by rfl)))) (by rfl) (by rfl) (by rfl) (by rfl) (by intro _; rfl) (by first   | exact .inl rfl   | exact .inr rfl   | assumption)) (@pss_cons _ _ _ _ _ (@ps_set _ _ (7) _ _ _ _ sc_law.nd rfl (Or.inl rfl) (@pe_tup _ _ _ _ _ (@pa_cons _ _ _ _ _ (@pe_str _ _ _ _) (@pa_cons _ _ _ _ _ (@pe_tup _ _ _ _ _ (@pa_cons _ _ _ _ _ (@pe_tup _ _ _ _ _ (@pa_cons _ _ _ _ _ (@pe_int _ _ _ _) (@pa_cons _ _ _ _ _ (@pe_int _ _ _ _) (@pa_nil _) (by rfl)) (by rfl))) (@pa_nil _) (by rfl))) (@pa_cons _ _ _ _ _ (@pe_non _ _ _) (@pa_nil _) (by rfl)) (by rfl)) (by rfl))) (by rfl) (by first   | exact .inl rfl   | exact .inr rfl   | assumption)) (@pss_cons _ _ _ _ _ (@ps_if _ _ _ _ _ _ _ _ (@pt_cmpR _ _ _ _ _ _ _ _ (@op_eq _) (@pe_ix _ _ _ _ _ _ _ (@ix_tup _) (@pv _ 4 _ _ (by rfl) (by first   | exact Or.inl rfl   | exact Or.inr (Or.inl rfl)   | exact Or.inr (Or.inr rfl)) (by decide) (by decide)) (@pe_int _ _ _ _) (fun _ _ => rfl)) (@pe_str _ _ _ _) (nomark _)) (@pss_one _ _ _ (@ps_set _ _ (7) _ _ _ _ sc_law.nd rfl (Or.inl rfl) (@pe_tup _ _ _ _ _ (@pa_cons _ _ _ _ _ (@pe_str _ _ _ _) (@pa_cons _ _ _ _ _ (@pe_tup _ _ _ _ _ (@pa_cons _ _ _ _ _ (@pe_tup _ _ _ _ _ (@pa_cons _ _ _ _ _ (@pe_int _ _ _ _) (@pa_cons _ _ _ _ _ (@pe_ix _ _ _ _ _ _ _ (@ix_tup _) (@pv _ 4 _ _ (by rfl) (by first   | exact Or.inl rfl   | exact Or.inr (Or.inl rfl)   | exact Or.inr (Or.inr rfl)) (by decide) (by decide)) (@pe_int _ _ _ _) (fun _ _ => rfl)) (@pa_nil _) (by rfl)) (by rfl))) (@pa_nil _) (by rfl))) (@pa_cons _ _ _ _ _ (@pe_non _ _ _) (@pa_nil _) (by rfl)) (by rfl)) (by rfl))) (by rfl) (by first   | exact .inl rfl   | exact .inr rfl   | assumption))) (@pss_nil _)) (@pss_cons _ _ _ _ _ (@ps_set _ _ (6) _ _ _ _ sc_law.nd rfl (Or.inl rfl) (@pe_op _ _ _ _ _ _ _ _ (@op_cat _) (@pe_op _ _ _ _ _ _ _ _ (@op_cat _) (@pe_op _ _ _ _ _ _ _ _ (@op_cat _) (@pe_slice _ _ _ _ _ _ _ _ _ _ sl_list (@pv _ 6 _ _ (by rfl) (by first   | exact Or.inl rfl   | exact Or.inr (Or.inl rfl)   | exact Or.inr (Or.inr rfl)) (by decide) (by decide)) (@po_none _) (@po_some _ _ _ (@pv _ 3 _ _ (by rfl) (by first   | exact Or.inl rfl   | exact Or.inr (Or.inl rfl)   | exact Or.inr (Or.inr rfl)) (by decide) (by decide)))) (@pe_lst _ _ _ _ (@pa_cons _ _ _ _ _ (@pv _ 4 _ _ (by rfl) (by first   | exact Or.inl rfl   | exact Or.inr (Or.inl rfl)   | exact Or.inr (Or.inr rfl)) (by decide) (by decide)) (@pa_nil _) (by rfl)))) (@pe_slice _ _ _ _ _ _ _ _ _ _ sl_list (@pv _ 6 _ _ (by rfl) (by first   | exact Or.inl rfl   | exact Or.inr (Or.inl rfl)   | exact Or.inr (Or.inr rfl)) (by decide) (by decide)) (@po_some _ _ _ (@pv _ 3 _ _ (by rfl) (by first   | exact Or.inl rfl   | exact Or.inr (Or.inl rfl)   | exact Or.inr (Or.inr rfl)) (by decide) (by decide))) (@po_none _))) (@pe_lst _ _ _ _ (@pa_cons _ _ _ _ _ (@pv _ 7 _ _ (by rfl) (by first   | exact Or.inl rfl   | exact Or.inr (Or.inl rfl)   | exact Or.inr (Or.inr rfl)) (by decide) (by decide)) (@pa_nil _) (by rfl)))) (by rfl) (by first   | exact .inl rfl   | exact .inr rfl   | assumption)) (@pss_cons _ _ _ _ _ (@ps_set _ _ (8) _ _ _ _ sc_law.nd rfl (Or.inl rfl) (@pe_op _ _ _ _ _ _ _ _ (@op_mod _) (@pe_op _ _ _ _ _ _ _ _ (@op_fdiv _) (@pe_fn _ _ _ _ _ _ _ _ _ _ _ C_law_cell_at hr (by rfl) (@pa_cons _ _ _ _ _ (@pv _ 0 _ _ (by rfl) (by first   | exact Or.inl rfl   | exact Or.inr (Or.inl rfl)   | exact Or.inr (Or.inr rfl)) (by decide) (by decide)) (@pa_cons _ _ _ _ _ (@pe_int _ _ _ _) (@pa_nil _) (by rfl)) (by rfl)) (by decide) (by decide) (by rfl) (by rfl)) (@pe_int _ _ _ _)) (@pe_op _ _ _ _ _ _ _ _ (@op_pow _) (@pe_int _ _ _ _) (@pe_int _ _ _ _))) (by rfl) (by first   | exact .inl rfl   | exact .inr rfl   | assumption)) (@pss_cons _ _ _ _ _ (@ps_set _ _ (9) _ _ _ _ sc_law.nd rfl (Or.inl rfl) (@pe_lst _ _ _ _ (@pa_nil _)) (by rfl) (by first   | exact .inl rfl   | exact .inr rfl   | assumption)) (@pss_cons _ _ _ _ _ (@ps_set _ _ (10) _ _ _ _ sc_law.nd rfl (Or.inl rfl) (@pe_dnewK _ _) (by rfl) (by first   | exact .inl rfl   | exact .inr rfl   | assumption)) (@pss_cons _ _ _ _ _ (@ps_set _ _ (11) _ _ _ _ sc_law.nd rfl (Or.inl rfl) (@pe_non _ _ _) (by rfl) (by first   | exact .inl rfl   | exact .inr rfl   | assumption)) (@pss_cons _ _ _ _ _ (@ps_for _ _ _ _ _ _ _ _ PassesOwn.never rfl (@pi_range1 _ _ _ _ _ _ (by rfl) T.n_range (@pa_cons _ _ _ _ _ (@pe_callB _ _ _ _ _ _ _ _ _ (@call_len_seq _) (by rfl) T.n_len PySem.boot_len (@pa_cons _ _ _ _ _ (@pv _ 6 _ _ (by rfl) (by first   | exact Or.inl rfl   | exact Or.inr (Or.inl rfl)   | exact Or.inr (Or.inr rfl)) (by decide) (by decide)) (@pa_nil _) (by rfl)) (by decide) (by decide) (by rfl) (by rfl)) (@pa_nil _) (by rfl)) (by rfl)) (@pg_name _ _ (12) _ sc_law.nd rfl (Or.inl rfl) (by first   | exact .inl rfl   | exact .inr rfl   | assumption)) (@pss_one _ _ _ (@ps_if _ _ _ _ _ _ _ _ (PW.pt (@pw_and _ _ _ _ _ _ _ (@pt_cmp _ _ _ _ _ _ (@pc_isN _ _ _ _ _ (@pv _ 11 _ _ (by rfl) (by first   | exact Or.inl rfl   | exact Or.inr (Or.inl rfl)   | exact Or.inr (Or.inr rfl)) (by decide) (by decide))) (by first   | exact nobehind _ (by decide) (by decide)   | rfl)) (@pw_and1 _ _ _ _ (@pt_cmpR _ _ _ _ _ _ _ _ (@op_eq _) (@pe_ix _ _ _ _ _ _ _ (@ix_tup _) (@pe_ix _ _ _ _ _ _ _ ix_list (@pv _ 6 _ _ (by rfl) (by first   | exact Or.inl rfl   | exact Or.inr (Or.inl rfl)   | exact Or.inr (Or.inr rfl)) (by decide) (by decide)) (@pv _ 12 _ _ (by rfl) (by first   | exact Or.inl rfl   | exact Or.inr (Or.inl rfl)   | exact Or.inr (Or.inr rfl)) (by decide) (by decide)) (fun _ _ => rfl)) (@pe_int _ _ _ _) (fun _ _ => rfl)) (@pe_str _ _ _ _) (nomark _))))) (@pss_cons _ _ _ _ _ (@ps_dput _ _ _ _ _ _ _ _ _ hu (@pv _ 10 _ _ (by rfl) (by first   | exact Or.inl rfl   | exact Or.inr (Or.inl rfl)   | exact Or.inr (Or.inr rfl)) (by decide) (by decide)) (@pe_ix _ _ _ _ _ _ _ (@ix_tup _) (@pe_ix _ _ _ _ _ _ _ ix_list (@pv _ 6 _ _ (by rfl) (by first   | exact Or.inl rfl   | exact Or.inr (Or.inl rfl)   | exact Or.inr (Or.inr rfl)) (by decide) (by decide)) (@pv _ 12 _ _ (by rfl) (by first   | exact Or.inl rfl   | exact Or.inr (Or.inl rfl)   | exact Or.inr (Or.inr rfl)) (by decide) (by decide)) (fun _ _ => rfl)) (@pe_int _ _ _ _) (fun _ _ => rfl)) (@pe_ix _ _ _ _ _ _ _ ix_list (@pv _ 5 _ _ (by rfl) (by first   | exact Or.inl rfl   | exact Or.inr (Or.inl rfl)   | exact Or.inr (Or.inr rfl)) (by decide) (by decide)) (@pe_op _ _ _ _ _ _ _ _ (@op_sub _) (@pe_callB _ _ _ _ _ _ _ _ _ (@call_len_seq _) (by rfl) T.n_len PySem.boot_len (@pa_cons _ _ _ _ _ (@pv _ 9 _ _ (by rfl) (by first   | exact Or.inl rfl   | exact Or.inr (Or.inl rfl)   | exact Or.inr (Or.inr rfl)) (by decide) (by decide)) (@pa_nil _) (by rfl)) (by decide) (by decide) (by rfl) (by rfl)) (@pe_callB _ _ _ _ _ _ _ _ _ (@call_len_seq _) (by rfl) T.n_len PySem.boot_len (@pa_cons _ _ _ _ _ (@pe_comp _ _ _ _ _ _ _ (["_law_deed"]) ([none]) _ _ _ _ (defScope s_law) ["_law_script", "_law_form", "_law_many", "_law_place", "_law_row_here", "_law_told", "_law_rows", "_law_last", "_law_number_here", "_law_due", "_law_values", "_law_fault", "_law_k", "_law_parts", "_law_found"] ⟨rfl, by decide +kernel, by decide +kernel, by decide +kernel, rfl, by decide +kernel, by decide +kernel⟩ (@pi_list _ _ _ _ (@pv _ 9 _ _ (by rfl) (by first   | exact Or.inl rfl   | exact Or.inr (Or.inl rfl)   | exact Or.inr (Or.inr rfl)) (by decide) (by decide))) (fun _ _ _ _ _ _ => (@pg_name _ _ (0) _ (show (["_law_deed"] : List Str).Nodup by decide +kernel) rfl (Or.inl rfl) (by first   | exact .inl rfl   | exact .inr rfl   | assumption))) (fun _ _ _ _ _ _ => (@pts_one _ _ _ (@pt_cmpR _ _ _ _ _ _ _ _ (@op_eq _) (@pe_ix _ _ _ _ _ _ _ (@ix_tupK _ (K) rfl) (@pv _ 0 _ _ (by rfl) (by first   | exact Or.inl rfl   | exact Or.inr (Or.inl rfl)   | exact Or.inr (Or.inr rfl)) (by decide) (by decide)) (@pe_int _ _ _ _) (fun _ _ => rfl)) (@pe_str _ _ _ _) (nomark _)))) (fun _ _ _ _ _ _ => (@pv _ 0 _ _ (by rfl) (by first   | exact Or.inl rfl   | exact Or.inr (Or.inl rfl)   | exact Or.inr (Or.inr rfl)) (by decide) (by decide))) (by rfl) (by rfl) (by rfl) (by intro _; rfl)) (@pa_nil _) (by rfl)) (by decide) (by decide) (by rfl) (by rfl))) (fun _ _ => rfl)) rfl) (@pss_one _ _ _ (@ps_expr _ _ _ _ (@pe_bm _ _ _ _ _ _ _ _ _ _ _ _ PySem.F.plainAttrs_list PySem.F.slot_list_append PySem.F.type_list_append (@mt_append _) (@pv _ 9 _ _ (by rfl) (by first   | exact Or.inl rfl   | exact Or.inr (Or.inl rfl)   | exact Or.inr (Or.inr rfl)) (by decide) (by decide)) (@pa_cons _ _ _ _ _ (@pe_tup _ _ _ _ _ (@pa_cons _ _ _ _ _ (@pe_str _ _ _ _) (@pa_cons _ _ _ _ _ (@pe_dget _ _ _ _ _ _ hu (@pv _ 10 _ _ (by rfl) (by first   | exact Or.inl rfl   | exact Or.inr (Or.inl rfl)   | exact Or.inr (Or.inr rfl)) (by decide) (by decide)) (@pe_ix _ _ _ _ _ _ _ (@ix_tup _) (@pe_ix _ _ _ _ _ _ _ ix_list (@pv _ 6 _ _ (by rfl) (by first   | exact Or.inl rfl   | exact Or.inr (Or.inl rfl)   | exact Or.inr (Or.inr rfl)) (by decide) (by decide)) (@pv _ 12 _ _ (by rfl) (by first   | exact Or.inl rfl   | exact Or.inr (Or.inl rfl)   | exact Or.inr (Or.inr rfl)) (by decide) (by decide)) (fun _ _ => rfl)) (@pe_int _ _ _ _) (fun _ _ => rfl)) (fun _ _ => rfl)) (@pa_cons _ _ _ _ _ (@pe_str _ _ _ _) (@pa_cons _ _ _ _ _ (@pv _ 12 _ _ (by rfl) (by first   | exact Or.inl rfl   | exact Or.inr (Or.inl rfl)   | exact Or.inr (Or.inr rfl)) (by decide) (by decide)) (@pa_nil _) (by rfl)) (by rfl)) (by rfl)) (by rfl))) (@pa_nil _) (by rfl)) (by rfl) (by rfl) (by rfl) (by rfl) (by rfl)) (by rfl)))) (@pss_one _ _ _ (@ps_if _ _ _ _ _ _ _ _ (@pt_cmp _ _ _ _ _ _ (@pc_isN _ _ _ _ _ (@pv _ 11 _ _ (by rfl) (by first   | exact Or.inl rfl   | exact Or.inr (Or.inl rfl)   | exact Or.inr (Or.inr rfl)) (by decide) (by decide))) (by first   | exact nobehind _ (by decide) (by decide)   | rfl)) (@pss_one _ _ _ (@ps_set _ _ (11) _ _ _ _ sc_law.nd rfl (Or.inl rfl) (@pe_fn _ _ _ _ _ _ _ _ _ _ _ C_law_done hr (by rfl) (@pa_cons _ _ _ _ _ (@pe_ix _ _ _ _ _ _ _ ix_list (@pv _ 6 _ _ (by rfl) (by first   | exact Or.inl rfl   | exact Or.inr (Or.inl rfl)   | exact Or.inr (Or.inr rfl)) (by decide) (by decide)) (@pv _ 12 _ _ (by rfl) (by first   | exact Or.inl rfl   | exact Or.inr (Or.inl rfl)   | exact Or.inr (Or.inr rfl)) (by decide) (by decide)) (fun _ _ => rfl)) (@pa_cons _ _ _ _ _ (@pv _ 10 _ _ (by rfl) (by first   | exact Or.inl rfl   | exact Or.inr (Or.inl rfl)   | exact Or.inr (Or.inr rfl)) (by decide) (by decide)) (@pa_cons _ _ _ _ _ (@pv _ 12 _ _ (by rfl) (by first   | exact Or.inl rfl   | exact Or.inr (Or.inl rfl)   | exact Or.inr (Or.inr rfl)) (by decide) (by decide)) (@pa_cons _ _ _ _ _ (@pv _ 9 _ _ (by rfl) (by first   | exact Or.inl rfl   | exact Or.inr (Or.inl rfl)   | exact Or.inr (Or.inr rfl)) (by decide) (by decide)) (@pa_cons _ _ _ _ _ (@pv _ 8 _ _ (by rfl) (by first   | exact Or.inl rfl   | exact Or.inr (Or.inl rfl)   | exact Or.inr (Or.inr rfl)) (by decide) (by decide)) (@pa_nil _) (by rfl)) (by rfl)) (by rfl)) (by rfl)) (by rfl)) (by decide) (by decide) (by rfl) (by rfl)) (by rfl) (by first   | exact .inl rfl   | exact .inr rfl   | assumption))) (@pss_nil _))))) (by intro _; rfl)) (@pss_cons _ _ _ _ _ (@ps_set _ _ (13) _ _ _ _ sc_law.nd rfl (Or.inl rfl) (@pe_tupF _ _ _ _ _ (@pa_cons _ _ _ _ _ (@pe_tup _ _ _ _ _ (@pa_cons _ _ _ _ _ (@pe_str _ _ _ _) (@pa_cons _ _ _ _ _ (@pe_tup _ _ _ _ _ (@pa_cons _ _ _ _ _ (@pe_tup _ _ _ _ _ (@pa_cons _ _ _ _ _ (@pe_str _ _ _ _) (@pa_cons _ _ _ _ _ (@pe_tup _ _ _ _ _ (@pa_cons _ _ _ _ _ (@pe_tup _ _ _ _ _ (@pa_cons _ _ _ _ _ (@pe_int _ _ _ _) (@pa_cons _ _ _ _ _ (@pv _ 8 _ _ (by rfl) (by first   | exact Or.inl rfl   | exact Or.inr (Or.inl rfl)   | exact Or.inr (Or.inr rfl)) (by decide) (by decide)) (@pa_nil _) (by rfl)) (by rfl))) (@pa_nil _) (by rfl))) (@pa_cons _ _ _ _ _ (@pe_non _ _ _) (@pa_nil _) (by rfl)) (by rfl)) (by rfl))) (@pa_nil _) (by rfl))) (@pa_nil _) (by rfl)) (by rfl))) (@pa_cons _ _ _ _ _ (@pe_tup _ _ _ _ _ (@pa_cons _ _ _ _ _ (@pe_str _ _ _ _) (@pa_cons _ _ _ _ _ (@pe_callTy _ _ _ _ _ _ _ _ _ (@call_tuple_of _) (by rfl) T.n_tuple boot_tuple (@pa_cons _ _ _ _ _ (@pv _ 6 _ _ (by rfl) (by first   | exact Or.inl rfl   | exact Or.inr (Or.inl rfl)   | exact Or.inr (Or.inr rfl)) (by decide) (by decide)) (@pa_nil _) (by rfl)) (by decide) (by decide) (by rfl) (by rfl)) (@pa_nil _) (by rfl)) (by rfl))) (@pa_nil _) (by rfl)) (by rfl))) (by rfl) (by first   | exact .inl rfl   | exact .inr rfl   | assumption)) (@pss_cons _ _ _ _ _ (@ps_set _ _ (14) _ _ _ _ sc_law.nd rfl (Or.inl rfl) (@pe_fn _ _ _ _ _ _ _ _ _ _ _ C_run hr (by rfl) (@pa_cons _ _ _ _ _ (@pv _ 13 _ _ (by rfl) (by first   | exact Or.inl rfl   | exact Or.inr (Or.inl rfl)   | exact Or.inr (Or.inr rfl)) (by decide) (by decide)) (@pa_cons _ _ _ _ _ (@pe_str _ _ _ _) (@pa_cons _ _ _ _ _ (@pe_callTy _ _ _ _ _ _ _ _ _ (@call_tuple_of _) (by rfl) T.n_tuple boot_tuple (@pa_cons _ _ _ _ _ (@pv _ 5 _ _ (by rfl) (by first   | exact Or.inl rfl   | exact Or.inr (Or.inl rfl)   | exact Or.inr (Or.inr rfl)) (by decide) (by decide)) (@pa_nil _) (by rfl)) (by decide) (by decide) (by rfl) (by rfl)) (@pa_nil _) (by rfl)) (by rfl)) (by rfl)) (by decide) (by decide) (by rfl) (by rfl)) (by rfl) (by first   | exact .inl rfl   | exact .inr rfl   | assumption)) (@pss_one _ _ _ (@ps_ret _ _ _ _ (@pe_and _ _ _ _ _ _ _ (@pe_fn _ _ _ _ _ _ _ _ _ _ _ C_law_kinds hr (by rfl) (@pa_cons _ _ _ _ _ (@pv _ 14 _ _ (by rfl) (by first   | exact Or.inl rfl   | exact Or.inr (Or.inl rfl)   | exact Or.inr (Or.inr rfl)) (by decide) (by decide)) (@pa_nil _) (by rfl)) (by decide) (by decide) (by rfl) (by rfl)) (@pe_one _ _ _ _ _ (@pe_cmpR _ _ _ _ _ _ _ _ (@op_eqD _ 3 hu4) (@pv _ 14 _ _ (by rfl) (by first   | exact Or.inl rfl   | exact Or.inr (Or.inl rfl)   | exact Or.inr (Or.inr rfl)) (by decide) (by decide)) (@pe_tup _ _ _ _ _ (@pa_cons _ _ _ _ _ (@pe_callTy _ _ _ _ _ _ _ _ _ (@call_tuple_of _) (by rfl) T.n_tuple boot_tuple (@pa_cons _ _ _ _ _ (@pv _ 9 _ _ (by rfl) (by first   | exact Or.inl rfl   | exact Or.inr (Or.inl rfl)   | exact Or.inr (Or.inr rfl)) (by decide) (by decide)) (@pa_nil _) (by rfl)) (by decide) (by decide) (by rfl) (by rfl)) (@pa_cons _ _ _ _ _ (@pv _ 11 _ _ (by rfl) (by first   | exact Or.inl rfl   | exact Or.inr (Or.inl rfl)   | exact Or.inr (Or.inr rfl)) (by decide) (by decide)) (@pa_nil _) (by rfl)) (by rfl))) (nomark _)))))))))))))))))))))), ?_⟩
    refine ⟨_, rfl, a, sc, 0, rfl, hS, by decide, fun f => ?_⟩
    refine ⟨_, rfl, a, sc, 2, rfl, hS, by decide, fun c2 => ⟨_, _, rfl, rfl, (by show (0 : Int) < 5; decide), _, _, rfl, rfl, ?_⟩⟩
    obtain ⟨m, hm1, hm2, em⟩ : ∃ m : Nat, 1 ≤ m ∧ m ≤ 5 ∧ 1 + c2 % 5 = (m : Int) := ⟨(1 + c2 % 5).toNat, by omega, by omega, by omega⟩
    show gName 2 (.int (1 + c2 % 5)) _ H _
    rw [em]
    refine ⟨_, rfl, a, sc, 5, rfl, hS, by decide, fun c5 => ⟨_, rfl, _, _, rfl, rfl, _, _, rfl, rfl, (by show (0 : Int) < (m : Int) + 1; omega), ?_⟩⟩
    obtain ⟨pl, hpl, epl⟩ : ∃ pl : Nat, pl ≤ m ∧ c5 % ((m : Int) + 1) = (pl : Int) := by
      have h0 : 0 ≤ c5 % ((m : Int) + 1) := Int.emod_nonneg _ (by omega)
      have h1 : c5 % ((m : Int) + 1) < (m : Int) + 1 := Int.emod_lt_of_pos _ (by omega)
      exact ⟨(c5 % ((m : Int) + 1)).toNat, by omega, by omega⟩
    show gName 3 (.int (c5 % ((m : Int) + 1))) _ H _
    rw [epl]
    refine ⟨_, rfl, _, rfl, _, rfl, a, sc, f, m, rfl, hS, hm1, hm2, fun r rw H1 s1 hra hR => ?_⟩
    refine ⟨_, rfl, _, rfl, (by omega), (by omega), fun tl gtl => ?_⟩
    refine comp_by m (fun i σ H2 => ∃ (v0 : Option V) (ns : List Int), σ = [v0, some (.ref a)] ∧ Same H1 H2 ∧ H2 tl = some (.lst (ns.map V.int)) ∧ ns.length = i) ⟨_, [], rfl, (Same.refl H1).new gtl, upd_same, rfl⟩ ?_ ?_
    · rintro i σ H2 hi ⟨v0, ns, rfl, s2, htl2, hnl⟩
      refine ⟨hi, ?_⟩
      rintro y H3 ⟨rfl, rfl⟩
      refine ntG ?_
      refine ⟨_, rfl, _, rfl, _, _, rfl, rfl, a, sc, _, rfl, s2.seq (s1.seq hS), by omega, fun c => ⟨c, rfl, fun n => ?_⟩⟩
      refine ⟨_, htl2, small1000 (by rw [List.length_map]; omega), _, ns ++ [n], rfl, s2.put gtl, ?_, by rw [List.length_append, hnl]; rfl⟩
      rw [upd_same, List.map_append]; rfl
    rintro σ H2 ⟨v0, ns, rfl, s2, htl2, hnl⟩
    refine ⟨Nat.le_refl _, ?_⟩
    refine ⟨_, rfl, _, rfl, (by omega), (by omega), fun A0 gA => ?_⟩
    refine comp_by m (fun i σ H3 => ∃ (v0 : Option V) (us : List V), σ = [v0, some (.int f)] ∧ Same H2 H3 ∧ H3 A0 = some (.lst us) ∧ RowsAt H3 us (takesL f i)) ⟨_, [], rfl, (Same.refl H2).new gA, upd_same, .nil⟩ ?_ ?_
    · rintro i σ H3 hi ⟨v0, us, rfl, s3, hA3, hus⟩
      refine ⟨hi, ?_⟩
      rintro y H4 ⟨rfl, rfl⟩
      refine ntG ?_
      rw [Int.zero_add]
      refine ⟨_, rfl, _, rfl, f, i, rfl, by omega, fun H5 s5 => ⟨(by show 2 ≤ sizeLine; decide), fun p gp => ?_⟩⟩
      have s6 := s5.new (o := .tup [.str "take", .str (nm22 f i)]) gp
      have hA6 := s6 _ _ hA3
      have T7 := Tups.lst (ys := us ++ [.ref p]) hA6
      have hul : us.length = i := by rw [Paired.length hus, takesL_len]
      refine ⟨us, hA6, small1000 (by omega), _, us ++ [.ref p], rfl, (s3.trans s6).put gA, upd_same, ?_⟩
      have e : takesL f (i + 1) = takesL f i ++ [.take (nm22 f i)] := by unfold takesL; rw [List.range_succ, List.map_append]; rfl
      rw [e]
      exact Paired.snoc ((hus.mono s6.tups).mono T7) ⟨p, rfl, T7 _ _ upd_same⟩
    rintro σ H3 ⟨v0', us, rfl, s3, hA3, hus⟩
    refine ⟨Nat.le_refl _, ?_⟩
    have hul : us.length = m := by rw [Paired.length hus, takesL_len]
    have s13 : Same H1 H3 := s2.trans s3
    refine ⟨(by show 2 ≤ sizeLine; decide), fun t1 g1 => ⟨(by show 1 ≤ sizeLine; decide), fun t2 g2 => ⟨(by show 3 ≤ sizeLine; decide), fun t3 g3 => ?_⟩⟩⟩
    have s4 : Same H3 (upd (upd (upd H3 t1 (.tup [.int 1, .int 9])) t2 (.tup [.ref t1])) t3 (.tup [.str "say", .ref t2, .non])) := (((Same.refl H3).new g1).new g2).new g3
    have hrow4 : RowAt (upd (upd (upd H3 t1 (.tup [.int 1, .int 9])) t2 (.tup [.ref t1])) t3 (.tup [.str "say", .ref t2, .non])) t3 (.say [(1, .num 9)] none) :=
      ⟨t2, upd_same, ⟨⟨[.ref t1], upd_keep upd_same g3, .cons ⟨t1, rfl, upd_keep (upd_keep upd_same g2) g3, (by show (0 : Int) ≤ 9 ∧ (9 : Int) < 10 ^ 60; decide)⟩ .nil⟩, (by show 1 ≤ 1; decide), (by show 1 ≤ 6; decide)⟩⟩
    generalize upd (upd (upd H3 t1 (.tup [.int 1, .int 9])) t2 (.tup [.ref t1])) t3 (.tup [.str "say", .ref t2, .non]) = H4 at s4 hrow4 ⊢
    have s14 := s13.trans s4
    have hra4 := hra.mono s14.tups
    obtain ⟨kd, rest, hrt4, hkd, hkset⟩ := row_kind hR hra4
    refine if_toH (fun x H5 => ∃ lt, x = .ref lt ∧ RowAt H5 lt (lstR f m rw)) ⟨isSet rw, fun Q h => ⟨_, rfl, r, _, _, _, rfl, rfl, SqT.of hrt4, atI_nat (j := 0) rfl, rfl, _, rfl, ?_⟩, fun hset Q hQ => ?_, fun hset => ⟨t3, rfl, by unfold lstR; rw [if_neg (by rw [hset]; exact Bool.false_ne_true)]; exact hrow4⟩⟩ ?_
    · have e : decide (V.str kd = V.str "set") = isSet rw := by
        cases hz : isSet rw with
        | true => rw [hkset.mpr hz]; exact decide_eq_true rfl
        | false => exact decide_eq_false fun z => by rw [hkset.mp (V.str.inj z)] at hz; cases hz
      rw [e]; exact h
    · obtain ⟨ts, ers⟩ : ∃ ts, rw = .set (nm22 f m) ts := by
        cases hR with
        | set ts hd => exact ⟨ts, rfl⟩
        | _ => cases hset
      have hra4' := hra4
      rw [ers] at hra4'
      obtain ⟨t0, hrs, _⟩ := hra4'
      refine ⟨_, rfl, r, _, _, _, rfl, rfl, SqT.of hrs, atI_nat (j := 1) rfl, (by show 2 ≤ sizeLine; decide), fun u1 k1 => ⟨(by show 1 ≤ sizeLine; decide), fun u2 k2 => ⟨(by show 3 ≤ sizeLine; decide), fun u3 k3 => ?_⟩⟩⟩
      refine hQ _ _ ((((Same.refl H4).new k1).new k2).new k3) ⟨u3, rfl, ?_⟩
      unfold lstR
      rw [if_pos hset]
      exact ⟨u2, upd_same, ⟨⟨[.ref u1], upd_keep upd_same k3, .cons (show TermAt _ (.ref u1) (1, .nam (nm22 f m)) from ⟨u1, rfl, upd_keep (upd_keep upd_same k2) k3, nm22_ok f (by omega)⟩) .nil⟩, (by show 1 ≤ 1; decide), (by show 1 ≤ 6; decide)⟩⟩
    rintro x H5 s5 ⟨lt, rfl, hlt5⟩
    have hA5 := s5 _ _ (s4 _ _ hA3)
    have s15 := s14.trans s5
    refine ⟨_, rfl, _, rfl, _, rfl, A0, _, rfl, SqL.of hA5, fun l1 k1 => ?_⟩
    rw [cut_lo (by omega)]
    have s6 : Same H5 (upd H5 l1 (.lst (us.take pl))) := (Same.refl H5).new k1
    have h6 : upd H5 l1 (.lst (us.take pl)) l1 = some (.lst (us.take pl)) := upd_same
    generalize upd H5 l1 (.lst (us.take pl)) = H6 at s6 h6 ⊢
    refine ⟨_, rfl, (by show 1 ≤ sizeLine; decide), fun l2 k2 => ?_⟩
    have s7 : Same H6 (upd H6 l2 (.lst [.ref r])) := (Same.refl H6).new k2
    have h7 : upd H6 l2 (.lst [.ref r]) l2 = some (.lst [.ref r]) := upd_same
    generalize upd H6 l2 (.lst [.ref r]) = H7 at s7 h7 ⊢
    have htk : (us.take pl).length = pl := by rw [List.length_take]; omega
    have hdk : (us.drop pl).length = m - pl := by rw [List.length_drop]; omega
    refine ⟨l1, l2, _, _, rfl, rfl, s7 _ _ h6, h7, Nat.le_of_lt (small1000 (by show (us.take pl).length + 1 ≤ 1000; omega)), fun l3 k3 => ?_⟩
    have s8 : Same H7 (upd H7 l3 (.lst (us.take pl ++ [.ref r]))) := (Same.refl H7).new k3
    have h8 : upd H7 l3 (.lst (us.take pl ++ [.ref r])) l3 = some (.lst (us.take pl ++ [.ref r])) := upd_same
    generalize upd H7 l3 (.lst (us.take pl ++ [.ref r])) = H8 at s8 h8 ⊢
    have s58 := (s6.trans s7).trans s8
    refine ⟨_, rfl, _, rfl, _, rfl, A0, _, rfl, SqL.of (s58 _ _ hA5), fun l4 k4 => ?_⟩
    rw [cut_hi (by omega)]
    have s9 : Same H8 (upd H8 l4 (.lst (us.drop pl))) := (Same.refl H8).new k4
    have h9 : upd H8 l4 (.lst (us.drop pl)) l4 = some (.lst (us.drop pl)) := upd_same
    generalize upd H8 l4 (.lst (us.drop pl)) = H9 at s9 h9 ⊢
    refine ⟨l3, l4, _, _, rfl, rfl, s9 _ _ h8, h9, Nat.le_of_lt (small1000 (by rw [List.length_append, List.length_singleton]; omega)), fun l5 k5 => ?_⟩
    have s10 : Same H9 (upd H9 l5 (.lst (us.take pl ++ [.ref r] ++ us.drop pl))) := (Same.refl H9).new k5
    have h10 : upd H9 l5 (.lst (us.take pl ++ [.ref r] ++ us.drop pl)) l5 = some (.lst (us.take pl ++ [.ref r] ++ us.drop pl)) := upd_same
    generalize upd H9 l5 (.lst (us.take pl ++ [.ref r] ++ us.drop pl)) = H10 at s10 h10 ⊢
    refine ⟨_, rfl, (by show 1 ≤ sizeLine; decide), fun l6 k6 => ?_⟩
    have s11 : Same H10 (upd H10 l6 (.lst [.ref lt])) := (Same.refl H10).new k6
    have h11 : upd H10 l6 (.lst [.ref lt]) l6 = some (.lst [.ref lt]) := upd_same
    generalize upd H10 l6 (.lst [.ref lt]) = H11 at s11 h11 ⊢
    refine ⟨l5, l6, _, _, rfl, rfl, s11 _ _ h10, h11, Nat.le_of_lt (small1000 (by rw [List.length_append, List.length_append, List.length_singleton, List.length_singleton]; omega)), fun RL gRL => ?_⟩
    have s12 : Same H11 (upd H11 RL (.lst (us.take pl ++ [.ref r] ++ us.drop pl ++ [.ref lt]))) := (Same.refl H11).new gRL
    have hRL0 : upd H11 RL (.lst (us.take pl ++ [.ref r] ++ us.drop pl ++ [.ref lt])) RL = some (.lst (us.take pl ++ [.ref r] ++ us.drop pl ++ [.ref lt])) := upd_same
    generalize upd H11 RL (.lst (us.take pl ++ [.ref r] ++ us.drop pl ++ [.ref lt])) = H12 at s12 hRL0 ⊢
    have s512 : Same H5 H12 := (((s58.trans s9).trans s10).trans s11).trans s12
    have s112 := s15.trans s512
    have s012 := s1.trans s112
    have hRows : RowsAt H12 (us.take pl ++ [.ref r] ++ us.drop pl ++ [.ref lt]) (rows22 f m pl rw) := by
      have hus12 : RowsAt H12 us (takesL f m) := (hus.mono (s4.trans s5).tups).mono s512.tups
      have e1 : us.take pl ++ [.ref r] ++ us.drop pl ++ [V.ref lt] = us.take pl ++ (.ref r :: (us.drop pl ++ [.ref lt])) := by simp
      rw [e1]
      exact paired_app2 (paired_takeN pl hus12) (.cons ⟨r, rfl, hra.mono s112.tups⟩ (paired_app2 (paired_dropN pl hus12) (.cons ⟨lt, rfl, hlt5.mono s512.tups⟩ .nil)))
    generalize us.take pl ++ [.ref r] ++ us.drop pl ++ [.ref lt] = ws at hRL0 hRows
    have hwl : ws.length = m + 2 := by rw [Paired.length hRows, rows22_len hpl]
    refine ⟨_, rfl, a, sc, 4, rfl, s012.seq hS, by decide, fun c4 => ⟨_, _, rfl, rfl, ⟨by decide, by decide⟩, _, _, rfl, rfl, ⟨by decide, by decide, by decide⟩, _, _, rfl, rfl, (by show (0 : Int) < 10 ^ (60 : Int).toNat; decide), ?_⟩⟩
    have hnn : 0 ≤ c4 / 15 % 10 ^ (60 : Int).toNat ∧ c4 / 15 % 10 ^ (60 : Int).toNat < 10 ^ 60 := ⟨Int.emod_nonneg _ (by decide), Int.emod_lt_of_pos _ (by decide)⟩
    show gName 8 (.int (c4 / 15 % 10 ^ (60 : Int).toNat)) _ H12 _
    generalize c4 / 15 % 10 ^ (60 : Int).toNat = nn at hnn ⊢
    refine ⟨(by show 0 ≤ sizeLine; decide), fun U gU => ?_⟩
    have s13' : Same H12 (upd H12 U (.lst [])) := (Same.refl H12).new gU
    have hU13 : upd H12 U (.lst []) U = some (.lst []) := upd_same
    generalize upd H12 U (.lst []) = H13 at s13' hU13 ⊢
    intro VA gVA
    have s14' : Same H13 (upd H13 VA (.dK [])) := (Same.refl H13).new gVA
    have hV14 : upd H13 VA (.dK []) VA = some (.dK []) := upd_same
    generalize upd H13 VA (.dK []) = H14 at s14' hV14 ⊢
    have s1214 := s13'.trans s14'
    have gVH : H12 VA = none := s13'.free gVA
    have hP := ps22_ok (nn := nn) hm2 hpl hR
    have hN := netG_nt hP
    have htl14 : H14 tl = some (.lst (ns.map V.int)) := s1214 _ _ (s512 _ _ (s5 _ _ (s4 _ _ (s3 _ _ htl2))))
    have hRL14 := s1214 _ _ hRL0
    have hRows14 : RowsAt H14 ws (rows22 f m pl rw) := hRows.mono s1214.tups
    have py0 : Py2 (netG (ps22 nn (rows22 f m pl rw))) U VA 0 { s0 with bg := [("one" : Str)] } H14 := ⟨⟨[], s14' _ _ hU13, .nil⟩, ⟨[], hV14, Nat.le_refl _, fun x k _ => rfl⟩, fun k v e => by cases e⟩
    have hmem1 : (("one" : Str), rows22 f m pl rw) ∈ ps22 nn (rows22 f m pl rw) := by unfold ps22; simp
    have hRLU : RL ≠ U := fun z => by rw [z, gU] at hRL0; cases hRL0
    have hRLV : RL ≠ VA := fun z => by rw [z, gVH] at hRL0; cases hRL0
    have htlU : tl ≠ U := fun z => by have := s512 _ _ (s5 _ _ (s4 _ _ (s3 _ _ htl2))); rw [z, gU] at this; cases this
    have htlV : tl ≠ VA := fun z => by have := s512 _ _ (s5 _ _ (s4 _ _ (s3 _ _ htl2))); rw [z, gVH] at this; cases this
    have hU14 := s14' _ _ hU13
    refine ⟨_, rfl, RL, _, rfl, .inl (SqL.of hRL14), _, rfl, (by omega), (by omega), for_range (fun i σ H2 => ∃ (v11 : V) (v12 : Option V), σ = [some (.ref a), some (.int f), some (.int (m : Int)), some (.int (pl : Int)), some (.ref r), some (.ref tl), some (.ref RL), some (.ref lt), some (.int nn), some (.ref U), some (.ref VA), some v11, v12, none, none] ∧ But2 U VA H14 H2 ∧ FtAt H2 v11 (((idxRows "one" (rows22 f m pl rw)).take i).foldl (stepG (netG (ps22 nn (rows22 f m pl rw))) ns (begG (netG (ps22 nn (rows22 f m pl rw))) ns 23)) { s0 with bg := [("one" : Str)] }).ft ∧ Py2 (netG (ps22 nn (rows22 f m pl rw))) U VA i (((idxRows "one" (rows22 f m pl rw)).take i).foldl (stepG (netG (ps22 nn (rows22 f m pl rw))) ns (begG (netG (ps22 nn (rows22 f m pl rw))) ns 23)) { s0 with bg := [("one" : Str)] }) H2 ∧ ((((idxRows "one" (rows22 f m pl rw)).take i).foldl (stepG (netG (ps22 nn (rows22 f m pl rw))) ns (begG (netG (ps22 nn (rows22 f m pl rw))) ns 23)) { s0 with bg := [("one" : Str)] }).ft = none → i ≤ m + 1 → (((idxRows "one" (rows22 f m pl rw)).take i).foldl (stepG (netG (ps22 nn (rows22 f m pl rw))) ns (begG (netG (ps22 nn (rows22 f m pl rw))) ns 23)) { s0 with bg := [("one" : Str)] }).tk = tb pl i ∧ cntT (((idxRows "one" (rows22 f m pl rw)).take i).foldl (stepG (netG (ps22 nn (rows22 f m pl rw))) ns (begG (netG (ps22 nn (rows22 f m pl rw))) ns 23)) { s0 with bg := [("one" : Str)] }).tr = (((idxRows "one" (rows22 f m pl rw)).take i).foldl (stepG (netG (ps22 nn (rows22 f m pl rw))) ns (begG (netG (ps22 nn (rows22 f m pl rw))) ns 23)) { s0 with bg := [("one" : Str)] }).tk ∧ (i ≤ pl → (((idxRows "one" (rows22 f m pl rw)).take i).foldl (stepG (netG (ps22 nn (rows22 f m pl rw))) ns (begG (netG (ps22 nn (rows22 f m pl rw))) ns 23)) { s0 with bg := [("one" : Str)] }).bg = [("one" : Str)])) ∧ (((idxRows "one" (rows22 f m pl rw)).take i).foldl (stepG (netG (ps22 nn (rows22 f m pl rw))) ns (begG (netG (ps22 nn (rows22 f m pl rw))) ns 23)) { s0 with bg := [("one" : Str)] }).tr.length ≤ i)
      ⟨.non, none, rfl, But2.of (Same.refl H14), rfl, py0, fun _ _ => ⟨(by unfold tb; rw [if_pos (Nat.zero_le _)]; rfl), rfl, fun _ => rfl⟩, Nat.le_refl _⟩ ?_ ?_⟩
    · rintro i σ H2 hi ⟨v11, v12, rfl, b2, hv2, py2, hiv, htl⟩
      have hi' : i < (rows22 f m pl rw).length := by rw [rows22_len hpl]; omega
      have hiw : i < ws.length := by omega
      have T2 : Tups H14 H2 := b2.tups2 hU14 hV14
      obtain ⟨y, hy⟩ : ∃ y, ws[i]? = some y := ⟨ws[i], List.getElem?_eq_getElem hiw⟩
      obtain ⟨rwi, hrwi, ri, ey, hrai⟩ := Paired.get? hRows14 hy
      subst ey
      have hra2 := hrai.mono T2
      have hxr : (idxRows "one" (rows22 f m pl rw))[i]? = some (("one" : Str), i, rwi) := idx_at hrwi
      have hfold : ((idxRows "one" (rows22 f m pl rw)).take (i + 1)).foldl (stepG (netG (ps22 nn (rows22 f m pl rw))) ns (begG (netG (ps22 nn (rows22 f m pl rw))) ns 23)) { s0 with bg := [("one" : Str)] } = stepG (netG (ps22 nn (rows22 f m pl rw))) ns (begG (netG (ps22 nn (rows22 f m pl rw))) ns 23) (((idxRows "one" (rows22 f m pl rw)).take i).foldl (stepG (netG (ps22 nn (rows22 f m pl rw))) ns (begG (netG (ps22 nn (rows22 f m pl rw))) ns 23)) { s0 with bg := [("one" : Str)] }) ("one", i, rwi) := by
        rw [take_succ_get hxr, List.foldl_append]
        rfl
      rw [hfold]
      clear hfold
      generalize (((idxRows "one" (rows22 f m pl rw)).take i).foldl (stepG (netG (ps22 nn (rows22 f m pl rw))) ns (begG (netG (ps22 nn (rows22 f m pl rw))) ns 23)) { s0 with bg := [("one" : Str)] }) = st at hv2 py2 hiv htl ⊢
      have hRL2 := b2 _ _ hRLU hRLV hRL14
      have htl2' := b2 _ _ htlU htlV htl14
      have hrwg : RwG ((ps22 nn (rows22 f m pl rw)).map (·.1)) ((rows22 f m pl rw).filterMap ownOf) rwi := hP.rw _ hmem1 rwi (List.mem_of_getElem? hrwi)
      rw [Int.zero_add]
      cases hft : st.ft with
      | some ff =>
        rw [hft] at hv2
        obtain ⟨tf, etf, htf⟩ := hv2
        subst etf
        have hst : stepG (netG (ps22 nn (rows22 f m pl rw))) ns (begG (netG (ps22 nn (rows22 f m pl rw))) ns 23) st ("one", i, rwi) = st := stepG_ft (by rw [hft]; simp)
        rw [hst]
        refine ⟨_, rfl, _, rfl, iteDF (by intro z; cases z) (iteF ?_)⟩
        refine ⟨_, rfl, _, rfl, iteDF (by intro z; cases z) ?_⟩
        exact ⟨.ref tf, _, rfl, b2, by rw [hft]; exact ⟨tf, rfl, htf⟩, py2.up (Same.refl H2) rfl rfl, fun z => (by rw [hft] at z; cases z), by omega⟩
      | none =>
        rw [hft] at hv2
        have hvn : v11 = .non := hv2
        subst hvn
        rcases rows_at hpl hrwi with ⟨erw, htb, hne, him⟩ | ⟨erw, eipl⟩ | ⟨erw, eim⟩
        · have erw' : rwi = .take (nm22 f (tb pl i)) := erw
          rw [erw'] at hra2 hrwi hrwg ⊢
          generalize hx : nm22 f (tb pl i) = x at hra2 hrwi hrwg ⊢
          obtain ⟨e1, e2, e3⟩ := hiv hft (by omega)
          have hkm : (netG (ps22 nn (rows22 f m pl rw))).km ("one", x) = some (("one" : Str), i) := km_at hP hmem1 hrwi rfl
          have hst : stepG (netG (ps22 nn (rows22 f m pl rw))) ns (begG (netG (ps22 nn (rows22 f m pl rw))) ns 23) st ("one", i, .take x) = { st with tk := if st.tk = ns.length then st.tk else st.tk + 1, gv := putK st.gv (kN ("one", i)) (.int (ns.getD st.tk 0)), tr := st.tr ++ [((("take" : Str), ns.getD st.tk 0, ("one" : Str), i) : Dd)] } := by
            rw [stepG_work hft rfl rfl rfl]
            show workS (netG (ps22 nn (rows22 f m pl rw))) ns st "one" i (.take x) = _
            simp only [workS, hkm]
          rw [hst]
          have hrt : H2 ri = some (.tup [.str "take", .str x]) := hra2
          obtain ⟨us2, hU2, hus2⟩ := py2.hU
          obtain ⟨kvs, hV2, hVl, hVr⟩ := py2.hV
          have hul2 : us2.length = st.tr.length := Paired.length hus2
          refine ⟨_, rfl, _, rfl, iteDT rfl ?_⟩
          refine ⟨_, rfl, _, rfl, RL, _, _, _, rfl, rfl, SqL.of hRL2, atI_nat hy, ri, _, _, _, rfl, rfl, SqT.of hrt, atI_nat (j := 0) rfl, rfl, _, rfl, iteSE ?_⟩
          refine ⟨_, rfl, _, rfl, U, _, rfl, .inl (SqL.of hU2), ?_⟩
          refine ⟨_, rfl, U, rfl, ⟨_, SqL.of hU2⟩, fun D gD => ?_⟩
          refine comp_by us2.length (fun j σ H3 => ∃ (v0 : Option V) (vs' : List V), σ = [v0] ∧ Same H2 H3 ∧ H3 D = some (.lst vs') ∧ vs'.length = cntS (st.tr.take j)) ⟨_, [], rfl, (Same.refl H2).new gD, upd_same, rfl⟩ ?_ ?_
          · rintro j σ H3 hj ⟨v0, vs', rfl, s3, hD3, hvl⟩
            refine ⟨⟨us2, us2[j], SqL.of (s3 _ _ hU2), List.getElem?_eq_getElem hj⟩, ?_⟩
            rintro z H4 ⟨rfl, hz⟩
            have hz' := hz us2 (SqL.of (s3 _ _ hU2))
            obtain ⟨dd, hdd, td, ez, htd⟩ := Paired.get? hus2 hz'
            subst ez
            have htd3 := s3 _ _ htd
            have hjl : cntS (st.tr.take (j + 1)) = cntS (st.tr.take j) + (if dd.1 = ("say" : Str) then 1 else 0) := by
              rw [take_succ_get hdd]
              unfold cntS
              rw [List.filter_append, List.length_append, List.filter_cons]
              by_cases h : dd.1 = ("say" : Str)
              · rw [if_pos h, if_pos (by simp [h])]; rfl
              · rw [if_neg h, if_neg (by simp [h])]; rfl
            refine ⟨_, rfl, td, _, _, _, rfl, rfl, SqT.of htd3, rfl, rfl, _, rfl, ?_⟩
            by_cases h : dd.1 = ("say" : Str)
            · refine iteDT (by rw [h]) ?_
              refine ⟨_, rfl, _, hD3, small1000 (by have := cnt_sum (st.tr.take j); rw [List.length_take] at this; omega), _, vs' ++ [.ref td], rfl, s3.put gD, upd_same, ?_⟩
              rw [List.length_append, hjl, if_pos h, hvl]; rfl
            · refine iteDF (fun z => h (V.str.inj z)) ?_
              refine ⟨_, vs', rfl, s3, hD3, ?_⟩
              rw [hjl, if_neg h, hvl]; rfl
          rintro σ H3 ⟨v0, vs', rfl, s3, hD3, hvl⟩
          refine ⟨⟨us2, SqL.of (s3 _ _ hU2), Nat.le_refl _⟩, ?_⟩
          rw [hul2, List.take_length] at hvl
          have hcs := cnt_sum st.tr
          have eix : ((us2.length : Nat) : Int) - ((vs'.length : Nat) : Int) = ((st.tk : Nat) : Int) := by omega
          refine ⟨D, _, rfl, .inl (SqL.of hD3), _, _, rfl, rfl, tl, _, _, _, rfl, rfl, SqL.of (s3 _ _ htl2'), (show atI (ns.map V.int) (((us2.length : Nat) : Int) - ((vs'.length : Nat) : Int)) = some (.int (ns.getD st.tk 0)) by rw [eix]; have := atI_map V.int ns 0 (i := ((st.tk : Nat) : Int)) (by omega) (by omega); simpa using this), ?_⟩
          refine ⟨_, rfl, _, rfl, _, rfl, RL, _, _, _, rfl, rfl, SqL.of (s3 _ _ hRL2), atI_nat hy, ri, _, _, _, rfl, rfl, SqT.of (s3 _ _ hrt), atI_nat (j := 1) rfl, VA, _, rfl, DPut.k (k := Sum.inr x) (s3 _ _ hV2) (small1000 (by omega)), ?_⟩
          generalize ns.getD st.tk 0 = vv
          have b3 : But2 U VA H14 (upd H3 VA (.dK (putK kvs (Sum.inr x) (.int vv)))) := (b2.same s3).put2
          have T3 : Tups H3 (upd H3 VA (.dK (putK kvs (Sum.inr x) (.int vv)))) := Tups.dK (s3 _ _ hV2)
          have hV4 : upd H3 VA (.dK (putK kvs (Sum.inr x) (.int vv))) VA = some (.dK (putK kvs (Sum.inr x) (.int vv))) := upd_same
          have hU4 : upd H3 VA (.dK (putK kvs (Sum.inr x) (.int vv))) U = some (.lst us2) := by rw [upd_ne py2.ne]; exact s3 _ _ hU2
          have hRL4 : upd H3 VA (.dK (putK kvs (Sum.inr x) (.int vv))) RL = some (.lst ws) := by rw [upd_ne hRLV]; exact s3 _ _ hRL2
          generalize upd H3 VA (.dK (putK kvs (Sum.inr x) (.int vv))) = H4 at b3 T3 hV4 hU4 hRL4 ⊢
          have hrt4' := T3 _ _ (s3 _ _ hrt)
          have hgv : DGet H4 VA (.str x) (some (.int vv)) := by
            have := DGet.k (k := Sum.inr x) hV4
            rw [valV_put, if_pos rfl] at this
            exact this
          refine ⟨_, rfl, .inl ⟨rfl, _, SqL.of hU4⟩, _, rfl, _, rfl, _, rfl, RL, _, _, _, rfl, rfl, SqL.of hRL4, atI_nat hy, ri, _, _, _, rfl, rfl, SqT.of hrt4', atI_nat (j := 1) rfl, VA, .int vv, rfl, hgv, _, rfl, (by show 4 ≤ sizeLine; decide), fun pt gpt => ?_⟩
          have s5' : Same H4 (upd H4 pt (.tup [.str "take", .int vv, .str "one", .int (i : Int)])) := (Same.refl H4).new gpt
          have hpt5 : upd H4 pt (.tup [.str "take", .int vv, .str "one", .int (i : Int)]) pt = some (.tup [.str "take", .int vv, .str "one", .int (i : Int)]) := upd_same
          generalize upd H4 pt (.tup [.str "take", .int vv, .str "one", .int (i : Int)]) = H5' at s5' hpt5 ⊢
          refine ⟨U, _, _, rfl, rfl, s5' _ _ hU4, small1000 (by omega), ?_⟩
          have T6 : Tups H5' (upd H5' U (.lst (us2 ++ [.ref pt]))) := Tups.lst (s5' _ _ hU4)
          have hpl2 := putK_len kvs (Sum.inr x) (.int vv)
          refine ⟨.non, _, rfl, (b3.same s5').put1, ?_, ⟨⟨_, upd_same, Paired.snoc (Paired.mapP hus2 fun _ _ z => z.mono (((s3.tups.trans T3).trans s5'.tups).trans T6)) ⟨pt, rfl, T6 _ _ hpt5⟩⟩, ⟨_, by rw [upd_ne py2.ne.symm]; exact s5' _ _ hV4, by omega, rel2_put (fun x y k h1 h2 => by have := km_inj hP h1 h2; exact (Prod.mk.inj this).2) hkm _ hVr⟩, int_put py2.gi⟩, fun _ _ => ⟨?_, ?_, fun hle => ?_⟩, ?_⟩
          · show FtAt _ .non st.ft
            rw [hft]; rfl
          · show (if st.tk = ns.length then st.tk else st.tk + 1) = tb pl (i + 1)
            rw [if_neg (by omega), e1]
            unfold tb
            by_cases z : i ≤ pl
            · rw [if_pos z, if_pos (by omega)]
            · rw [if_neg z, if_neg (by omega)]; omega
          · show cntT (st.tr ++ [_]) = (if st.tk = ns.length then st.tk else st.tk + 1)
            rw [cntT_take, if_neg (by omega), e2]
          · exact e3 (by omega)
          · show (st.tr ++ [_]).length ≤ i + 1
            rw [List.length_append, List.length_singleton]; omega
        · have hRi : Row22 f m rwi := by rw [erw]; exact hR
          obtain ⟨kd', rest', hrt, hkd', _⟩ := row_kind hRi hra2
          refine ⟨_, rfl, _, rfl, iteDT rfl ?_⟩
          refine ⟨_, rfl, _, rfl, RL, _, _, _, rfl, rfl, SqL.of hRL2, atI_nat hy, ri, _, _, _, rfl, rfl, SqT.of hrt, atI_nat (j := 0) rfl, rfl, _, rfl, iteSN hkd' ?_⟩
          refine ⟨_, rfl, _, rfl, iteDT rfl ?_⟩
          have hgo : begG (netG (ps22 nn (rows22 f m pl rw))) ns 23 "other" st = { st with bg := st.bg ++ [("other" : Str)], tr := st.tr ++ [((("say" : Str), nn, ("other" : Str), 0) : Dd)] } := go_other (d := 22) hft
          have hdt := done_tk (N := (netG (ps22 nn (rows22 f m pl rw)))) (ns := ns) (go := begG (netG (ps22 nn (rows22 f m pl rw))) ns 23) (j := i) hRi hft hgo
          refine ⟨_, rfl, _, rfl, RL, _, _, _, rfl, rfl, SqL.of hRL2, atI_nat hy, _, rfl, _, rfl, _, rfl, _, rfl, ri, VA, U, i, nn, rwi, f, m, i, (netG (ps22 nn (rows22 f m pl rw))), ns, begG (netG (ps22 nn (rows22 f m pl rw))) ns 23, st, rfl, hra2, hRi, (fun d hd => km_own hP hmem1 (hrwg.rd d hd)), (fun o ho => km_own hP hmem1 (hrwg.ow o ho)), (fun x y k h1 h2 => by have := km_inj hP h1 h2; exact (Prod.mk.inj this).2), hgo, (fun w _ => by rw [(hiv hft (by omega)).2.2 (by omega)]; decide +kernel), hft, by omega, by omega, py2, fun v H3 b3 hv3 py3 => ?_⟩
          refine ⟨v, _, rfl, b2.trans b3, hv3, py3, fun hf' hle => ?_, by have := hdt.2.2; omega⟩
          obtain ⟨e1, e2, e3⟩ := hiv hft (by omega)
          refine ⟨by rw [hdt.1, e1]; unfold tb; rw [if_pos (by omega), if_neg (by omega)]; omega, by rw [hdt.2.1, hdt.1]; exact e2, fun z => by omega⟩
        · have hRi : Row22 f (m + 1) rwi := by rw [erw]; exact lst_row22 rw
          obtain ⟨kd', rest', hrt, hkd', _⟩ := row_kind hRi hra2
          refine ⟨_, rfl, _, rfl, iteDT rfl ?_⟩
          refine ⟨_, rfl, _, rfl, RL, _, _, _, rfl, rfl, SqL.of hRL2, atI_nat hy, ri, _, _, _, rfl, rfl, SqT.of hrt, atI_nat (j := 0) rfl, rfl, _, rfl, iteSN hkd' ?_⟩
          refine ⟨_, rfl, _, rfl, iteDT rfl ?_⟩
          have hgo : begG (netG (ps22 nn (rows22 f m pl rw))) ns 23 "other" st = { st with bg := st.bg ++ [("other" : Str)], tr := st.tr ++ [((("say" : Str), nn, ("other" : Str), 0) : Dd)] } := go_other (d := 22) hft
          have hdt := done_tk (N := (netG (ps22 nn (rows22 f m pl rw)))) (ns := ns) (go := begG (netG (ps22 nn (rows22 f m pl rw))) ns 23) (j := i) hRi hft hgo
          refine ⟨_, rfl, _, rfl, RL, _, _, _, rfl, rfl, SqL.of hRL2, atI_nat hy, _, rfl, _, rfl, _, rfl, _, rfl, ri, VA, U, i, nn, rwi, f, m + 1, i, (netG (ps22 nn (rows22 f m pl rw))), ns, begG (netG (ps22 nn (rows22 f m pl rw))) ns 23, st, rfl, hra2, hRi, (fun d hd => km_own hP hmem1 (hrwg.rd d hd)), (fun o ho => km_own hP hmem1 (hrwg.ow o ho)), (fun x y k h1 h2 => by have := km_inj hP h1 h2; exact (Prod.mk.inj this).2), hgo, (fun w e => by rw [erw] at e; unfold lstR at e; split at e <;> cases e), hft, by omega, by omega, py2, fun v H3 b3 hv3 py3 => ?_⟩
          refine ⟨v, _, rfl, b2.trans b3, hv3, py3, fun hf' hle => ?_, by have := hdt.2.2; omega⟩
          obtain ⟨e1, e2, e3⟩ := hiv hft (by omega)
          omega
    · rintro σ H15 ⟨v11, v12, rfl, b15, hv15, py15, _, _⟩
      have e15 : (idxRows "one" (rows22 f m pl rw)).take ((ws.length : Int)).toNat = idxRows "one" (rows22 f m pl rw) := List.take_of_length_le (by rw [idx_len, rows22_len hpl]; omega)
      rw [e15] at hv15 py15
      have ebeg : begG (netG (ps22 nn (rows22 f m pl rw))) ns 24 "one" s0 = (idxRows "one" (rows22 f m pl rw)).foldl (stepG (netG (ps22 nn (rows22 f m pl rw))) ns (begG (netG (ps22 nn (rows22 f m pl rw))) ns 23)) { s0 with bg := [("one" : Str)] } := by
        show (idxRows "one" (rowsN (netG (ps22 nn (rows22 f m pl rw))) "one")).foldl _ _ = _
        rw [rowsN_eq hN.nd hmem1]
        rfl
      rw [← ebeg] at hv15 py15
      have T15 : Tups H14 H15 := b15.tups2 hU14 hV14
      have hRL15 := b15 _ _ hRLU hRLV hRL14
      have htl15 := b15 _ _ htlU htlV htl14
      have hRows15 := hRows14.mono T15
      refine ⟨_, rfl, (by show 2 ≤ sizeLine; decide), fun a1 x1 => ⟨(by show 1 ≤ sizeLine; decide), fun a2 x2 => ⟨(by show 3 ≤ sizeLine; decide), fun a3 x3 => ⟨(by show 1 ≤ sizeLine; decide), fun a4 x4 => ⟨(by show 2 ≤ sizeLine; decide), fun a5 x5 => ?_⟩⟩⟩⟩⟩
      have s16 : Same H15 (upd (upd (upd (upd (upd H15 a1 (.tup [.int 1, .int nn])) a2 (.tup [.ref a1])) a3 (.tup [.str "say", .ref a2, .non])) a4 (.tup [.ref a3])) a5 (.tup [.str "other", .ref a4])) := (((((Same.refl H15).new x1).new x2).new x3).new x4).new x5
      have hp16 : PartAt (upd (upd (upd (upd (upd H15 a1 (.tup [.int 1, .int nn])) a2 (.tup [.ref a1])) a3 (.tup [.str "say", .ref a2, .non])) a4 (.tup [.ref a3])) a5 (.tup [.str "other", .ref a4])) (.ref a5) ("other", [.say [(1, .num nn)] none]) := by
        have k4 := upd_keep (o := .tup [.str "other", .ref a4]) (l := a4) (u := .tup [.ref a3]) (p := a5) upd_same x5
        have k3 := upd_keep (o := .tup [.str "other", .ref a4]) (l := a3) (u := .tup [.str "say", .ref a2, .non]) (p := a5) (upd_keep upd_same x4) x5
        have k2 := upd_keep (o := .tup [.str "other", .ref a4]) (l := a2) (u := .tup [.ref a1]) (p := a5) (upd_keep (upd_keep upd_same x3) x4) x5
        have k1 := upd_keep (o := .tup [.str "other", .ref a4]) (l := a1) (u := .tup [.int 1, .int nn]) (p := a5) (upd_keep (upd_keep (upd_keep upd_same x2) x3) x4) x5
        exact ⟨a5, a4, [.ref a3], rfl, upd_same, k4, .cons ⟨a3, rfl, ⟨a2, k3, ⟨⟨[.ref a1], k2, .cons (show TermAt _ (.ref a1) (1, .num nn) from ⟨a1, rfl, k1, hnn⟩) .nil⟩, (by show 1 ≤ 1; decide), (by show 1 ≤ 6; decide)⟩⟩⟩ .nil⟩
      generalize upd (upd (upd (upd (upd H15 a1 (.tup [.int 1, .int nn])) a2 (.tup [.ref a1])) a3 (.tup [.str "say", .ref a2, .non])) a4 (.tup [.ref a3])) a5 (.tup [.str "other", .ref a4]) = H16 at s16 hp16 ⊢
      refine ⟨_, rfl, RL, _, rfl, .inl ⟨SqL.of (s16 _ _ hRL15), fun a6 x6 => ⟨(by show 2 ≤ sizeLine; decide), fun a7 x7 => ⟨(by show 2 ≤ sizeLine; decide), fun pp ob xp hob => ?_⟩⟩⟩⟩
      have s17 : Same H16 (upd (upd (upd H16 a6 (.tup ws)) a7 (.tup [.str "one", .ref a6])) pp (.frz ob (.tup [.ref a5, .ref a7]))) := (((Same.refl H16).new x6).new x7).new xp
      have hp17 : PartsF (upd (upd (upd H16 a6 (.tup ws)) a7 (.tup [.str "one", .ref a6])) pp (.frz ob (.tup [.ref a5, .ref a7]))) pp (ps22 nn (rows22 f m pl rw)) :=
        ⟨ob, [.ref a5, .ref a7], upd_same, hob, .cons (hp16.mono s17.tups) (.cons ⟨a7, a6, ws, rfl, upd_keep upd_same xp, upd_keep (upd_keep upd_same x7) xp, (hRows15.mono s16.tups).mono s17.tups⟩ .nil)⟩
      generalize upd (upd (upd H16 a6 (.tup ws)) a7 (.tup [.str "one", .ref a6])) pp (.frz ob (.tup [.ref a5, .ref a7])) = H17 at s17 hp17 ⊢
      have s1517 := s16.trans s17
      refine ⟨_, rfl, _, rfl, tl, _, rfl, .inl ⟨SqL.of (s1517 _ _ htl15), fun nt xn => ?_⟩⟩
      have s18 : Same H17 (upd H17 nt (.tup (ns.map V.int))) := (Same.refl H17).new xn
      have hroot : (("one" : Str)) ∈ (ps22 nn (rows22 f m pl rw)).map (·.1) := List.mem_map_of_mem (f := (·.1)) hmem1
      refine ⟨pp, nt, ps22 nn (rows22 f m pl rw), (netG (ps22 nn (rows22 f m pl rw))), ns, "one", rfl, s18.partsF hp17, hP.fit, netG_ok hP, netG_of _, hN, upd_same, hroot, fun p t vs vf S' H19 s19 hp ht hvs hf hst hend => ?_⟩
      obtain ⟨e1, e2⟩ := runG hN hroot hst hend
      rw [e1] at hvs
      rw [e2] at hf
      have s1519 : Same H15 H19 := (s1517.trans s18).trans s19
      obtain ⟨ds, hUd, hds⟩ := py15.hU
      refine ⟨_, rfl, p, t, vs, vf, _, _, rfl, hp, ht, hvs, hf, _, rfl, iteT ?_⟩
      refine ⟨_, rfl, _, rfl, U, _, rfl, .inl ⟨SqL.of (s1519 _ _ hUd), fun td gtd => ⟨_, rfl, (by show 2 ≤ sizeLine; decide), fun qq gqq => ?_⟩⟩⟩
      have s20 : Same H19 (upd (upd H19 td (.tup ds)) qq (.tup [.ref td, v11])) := ((Same.refl H19).new gtd).new gqq
      exact ⟨p, qq, _, _, rfl, rfl, SqT.of (s20 _ _ hp), SqT.of upd_same, .cons (.inr ⟨t, td, _, _, rfl, rfl, SqT.of (s20 _ _ ht), SqT.of (upd_keep upd_same gqq), eqD_dds (Paired.mapP hvs fun _ _ z => z.mono s20.tups) (Paired.mapP hds fun _ _ z => z.mono (s1519.trans s20).tups)⟩) (.cons (eqD_ft (hf.mono s20.tups) (hv15.mono (s1519.trans s20).tups)) .nil), q _⟩
end
end K22
set_option Elab.async false
set_option linter.all false
set_option maxRecDepth 100000
namespace K22
open PySem L2
theorem all_mk {l : PySem.W.OpenLaw} {w : World} {K : PySem.W.Frag} {h : Heap} {mg : Str → Option Value} {fa : Addr} (X : K.In h) (G : h.Ns mainGlobals mg) (hfa : mg "law" = some (.ref fa))
    {CP CG : Addr}
    {f0 : Addr} {od0 an0 : Option Addr} {sl0 : Array (Option Value)} {oc0 kV0 dc0 pm0 cd0 ct0 : Value}
    {f1 : Addr} {od1 an1 : Option Addr} {sl1 : Array (Option Value)} {oc1 kV1 dc1 pm1 cd1 ct1 : Value}
    {f2 : Addr} {od2 an2 : Option Addr} {sl2 : Array (Option Value)} {oc2 kV2 dc2 pm2 cd2 ct2 : Value}
    {f3 : Addr} {od3 an3 : Option Addr} {sl3 : Array (Option Value)} {oc3 kV3 dc3 pm3 cd3 ct3 : Value}
    {f4 : Addr} {od4 an4 : Option Addr} {sl4 : Array (Option Value)} {oc4 kV4 dc4 pm4 cd4 ct4 : Value}
    {f5 : Addr} {od5 an5 : Option Addr} {sl5 : Array (Option Value)} {oc5 kV5 dc5 pm5 cd5 ct5 : Value}
    {f6 : Addr} {od6 an6 : Option Addr} {sl6 : Array (Option Value)} {oc6 kV6 dc6 pm6 cd6 ct6 : Value}
    {f7 : Addr} {od7 an7 : Option Addr} {sl7 : Array (Option Value)} {oc7 kV7 dc7 pm7 cd7 ct7 : Value}
    {f8 : Addr} {od8 an8 : Option Addr} {sl8 : Array (Option Value)} {oc8 kV8 dc8 pm8 cd8 ct8 : Value}
    {f9 : Addr} {od9 an9 : Option Addr} {sl9 : Array (Option Value)} {oc9 kV9 dc9 pm9 cd9 ct9 : Value}
    {f10 : Addr} {od10 an10 : Option Addr} {sl10 : Array (Option Value)} {oc10 kV10 dc10 pm10 cd10 ct10 : Value}
    {f11 : Addr} {od11 an11 : Option Addr} {sl11 : Array (Option Value)} {oc11 kV11 dc11 pm11 cd11 ct11 : Value}
    {f12 : Addr} {od12 an12 : Option Addr} {sl12 : Array (Option Value)} {oc12 kV12 dc12 pm12 cd12 ct12 : Value}
    {f13 : Addr} {od13 an13 : Option Addr} {sl13 : Array (Option Value)} {oc13 kV13 dc13 pm13 cd13 ct13 : Value}
    {f14 : Addr} {od14 an14 : Option Addr} {sl14 : Array (Option Value)} {oc14 kV14 dc14 pm14 cd14 ct14 : Value}
    {f15 : Addr} {od15 an15 : Option Addr} {sl15 : Array (Option Value)} {oc15 kV15 dc15 pm15 cd15 ct15 : Value}
    {f16 : Addr} {od16 an16 : Option Addr} {sl16 : Array (Option Value)} {oc16 kV16 dc16 pm16 cd16 ct16 : Value}
    {f17 : Addr} {od17 an17 : Option Addr} {sl17 : Array (Option Value)} {oc17 kV17 dc17 pm17 cd17 ct17 : Value}
    {f18 : Addr} {od18 an18 : Option Addr} {sl18 : Array (Option Value)} {oc18 kV18 dc18 pm18 cd18 ct18 : Value}
    {f19 : Addr} {od19 an19 : Option Addr} {sl19 : Array (Option Value)} {oc19 kV19 dc19 pm19 cd19 ct19 : Value}
    {f20 : Addr} {od20 an20 : Option Addr} {sl20 : Array (Option Value)} {oc20 kV20 dc20 pm20 cd20 ct20 : Value}
    {f21 : Addr} {od21 an21 : Option Addr} {sl21 : Array (Option Value)} {oc21 kV21 dc21 pm21 cd21 ct21 : Value}
    {f22 : Addr} {od22 an22 : Option Addr} {sl22 : Array (Option Value)} {oc22 kV22 dc22 pm22 cd22 ct22 : Value}
    {f23 : Addr} {od23 an23 : Option Addr} {sl23 : Array (Option Value)} {oc23 kV23 dc23 pm23 cd23 ct23 : Value}
    {f24 : Addr} {od24 an24 : Option Addr} {sl24 : Array (Option Value)} {oc24 kV24 dc24 pm24 cd24 ct24 : Value}
    {f25 : Addr} {od25 an25 : Option Addr} {sl25 : Array (Option Value)} {oc25 kV25 dc25 pm25 cd25 ct25 : Value}
    {f26 : Addr} {od26 an26 : Option Addr} {sl26 : Array (Option Value)} {oc26 kV26 dc26 pm26 cd26 ct26 : Value}
    {f27 : Addr} {od27 an27 : Option Addr} {sl27 : Array (Option Value)} {oc27 kV27 dc27 pm27 cd27 ct27 : Value}
    {f28 : Addr} {od28 an28 : Option Addr} {sl28 : Array (Option Value)} {oc28 kV28 dc28 pm28 cd28 ct28 : Value}
    {f29 : Addr} {od29 an29 : Option Addr} {sl29 : Array (Option Value)} {oc29 kV29 dc29 pm29 cd29 ct29 : Value}
    {f30 : Addr} {od30 an30 : Option Addr} {sl30 : Array (Option Value)} {oc30 kV30 dc30 pm30 cd30 ct30 : Value}
    {f31 : Addr} {od31 an31 : Option Addr} {sl31 : Array (Option Value)} {oc31 kV31 dc31 pm31 cd31 ct31 : Value}
    {f32 : Addr} {od32 an32 : Option Addr} {sl32 : Array (Option Value)} {oc32 kV32 dc32 pm32 cd32 ct32 : Value}
    {f33 : Addr} {od33 an33 : Option Addr} {sl33 : Array (Option Value)} {oc33 kV33 dc33 pm33 cd33 ct33 : Value}
    {f34 : Addr} {od34 an34 : Option Addr} {sl34 : Array (Option Value)} {oc34 kV34 dc34 pm34 cd34 ct34 : Value}
    {f35 : Addr} {od35 an35 : Option Addr} {sl35 : Array (Option Value)} {oc35 kV35 dc35 pm35 cd35 ct35 : Value}
    {f36 : Addr} {od36 an36 : Option Addr} {sl36 : Array (Option Value)} {oc36 kV36 dc36 pm36 cd36 ct36 : Value}
    {f37 : Addr} {od37 an37 : Option Addr} {sl37 : Array (Option Value)} {oc37 kV37 dc37 pm37 cd37 ct37 : Value}
    {f38 : Addr} {od38 an38 : Option Addr} {sl38 : Array (Option Value)} {oc38 kV38 dc38 pm38 cd38 ct38 : Value}
    {f39 : Addr} {od39 an39 : Option Addr} {sl39 : Array (Option Value)} {oc39 kV39 dc39 pm39 cd39 ct39 : Value}
    {f40 : Addr} {od40 an40 : Option Addr} {sl40 : Array (Option Value)} {oc40 kV40 dc40 pm40 cd40 ct40 : Value}
    {f41 : Addr} {od41 an41 : Option Addr} {sl41 : Array (Option Value)} {oc41 kV41 dc41 pm41 cd41 ct41 : Value}
    {f42 : Addr} {od42 an42 : Option Addr} {sl42 : Array (Option Value)} {oc42 kV42 dc42 pm42 cd42 ct42 : Value}
    (a0 : PySem.W.nsIn K mainGlobals "words_of" = some (some (.ref f0))) (l0 : K.lookup f0 = some ⟨oc0, od0, .func (PySem.W.fnOf "words_of" "words_of" (defArgs s_words_of) (defBody s_words_of) (defScope s_words_of) .none kV0 dc0 pm0 an0 cd0 ct0), sl0⟩) (c0 : PySem.W.codeIn K cd0 "words_of" = true) (k0 : PySem.W.keepIn K (.ref f0) = true)
    (a1 : PySem.W.nsIn K mainGlobals "pair_words" = some (some (.ref f1))) (l1 : K.lookup f1 = some ⟨oc1, od1, .func (PySem.W.fnOf "pair_words" "pair_words" (defArgs s_pair_words) (defBody s_pair_words) (defScope s_pair_words) .none kV1 dc1 pm1 an1 cd1 ct1), sl1⟩) (c1 : PySem.W.codeIn K cd1 "pair_words" = true) (k1 : PySem.W.keepIn K (.ref f1) = true)
    (a2 : PySem.W.nsIn K mainGlobals "sum_words" = some (some (.ref f2))) (l2 : K.lookup f2 = some ⟨oc2, od2, .func (PySem.W.fnOf "sum_words" "sum_words" (defArgs s_sum_words) (defBody s_sum_words) (defScope s_sum_words) .none kV2 dc2 pm2 an2 cd2 ct2), sl2⟩) (c2 : PySem.W.codeIn K cd2 "sum_words" = true) (k2 : PySem.W.keepIn K (.ref f2) = true)
    (a3 : PySem.W.nsIn K mainGlobals "when_words" = some (some (.ref f3))) (l3 : K.lookup f3 = some ⟨oc3, od3, .func (PySem.W.fnOf "when_words" "when_words" (defArgs s_when_words) (defBody s_when_words) (defScope s_when_words) .none kV3 dc3 pm3 an3 cd3 ct3), sl3⟩) (c3 : PySem.W.codeIn K cd3 "when_words" = true) (k3 : PySem.W.keepIn K (.ref f3) = true)
    (a4 : PySem.W.nsIn K mainGlobals "read_names" = some (some (.ref f4))) (l4 : K.lookup f4 = some ⟨oc4, od4, .func (PySem.W.fnOf "read_names" "read_names" (defArgs s_read_names) (defBody s_read_names) (defScope s_read_names) .none kV4 dc4 pm4 an4 cd4 ct4), sl4⟩) (c4 : PySem.W.codeIn K cd4 "read_names" = true) (k4 : PySem.W.keepIn K (.ref f4) = true)
    (a5 : PySem.W.nsIn K mainGlobals "sum_names" = some (some (.ref f5))) (l5 : K.lookup f5 = some ⟨oc5, od5, .func (PySem.W.fnOf "sum_names" "sum_names" (defArgs s_sum_names) (defBody s_sum_names) (defScope s_sum_names) .none kV5 dc5 pm5 an5 cd5 ct5), sl5⟩) (c5 : PySem.W.codeIn K cd5 "sum_names" = true) (k5 : PySem.W.keepIn K (.ref f5) = true)
    (a6 : PySem.W.nsIn K mainGlobals "when_names" = some (some (.ref f6))) (l6 : K.lookup f6 = some ⟨oc6, od6, .func (PySem.W.fnOf "when_names" "when_names" (defArgs s_when_names) (defBody s_when_names) (defScope s_when_names) .none kV6 dc6 pm6 an6 cd6 ct6), sl6⟩) (c6 : PySem.W.codeIn K cd6 "when_names" = true) (k6 : PySem.W.keepIn K (.ref f6) = true)
    (a7 : PySem.W.nsIn K mainGlobals "placed_rows" = some (some (.ref f7))) (l7 : K.lookup f7 = some ⟨oc7, od7, .func (PySem.W.fnOf "placed_rows" "placed_rows" (defArgs s_placed_rows) (defBody s_placed_rows) (defScope s_placed_rows) .none kV7 dc7 pm7 an7 cd7 ct7), sl7⟩) (c7 : PySem.W.codeIn K cd7 "placed_rows" = true) (k7 : PySem.W.keepIn K (.ref f7) = true)
    (a8 : PySem.W.nsIn K mainGlobals "given_owns" = some (some (.ref f8))) (l8 : K.lookup f8 = some ⟨oc8, od8, .func (PySem.W.fnOf "given_owns" "given_owns" (defArgs s_given_owns) (defBody s_given_owns) (defScope s_given_owns) .none kV8 dc8 pm8 an8 cd8 ct8), sl8⟩) (c8 : PySem.W.codeIn K cd8 "given_owns" = true) (k8 : PySem.W.keepIn K (.ref f8) = true)
    (a9 : PySem.W.nsIn K mainGlobals "links" = some (some (.ref f9))) (l9 : K.lookup f9 = some ⟨oc9, od9, .func (PySem.W.fnOf "links" "links" (defArgs s_links) (defBody s_links) (defScope s_links) .none kV9 dc9 pm9 an9 cd9 ct9), sl9⟩) (c9 : PySem.W.codeIn K cd9 "links" = true) (k9 : PySem.W.keepIn K (.ref f9) = true)
    (a10 : PySem.W.nsIn K mainGlobals "makers" = some (some (.ref f10))) (l10 : K.lookup f10 = some ⟨oc10, od10, .func (PySem.W.fnOf "makers" "makers" (defArgs s_makers) (defBody s_makers) (defScope s_makers) .none kV10 dc10 pm10 an10 cd10 ct10), sl10⟩) (c10 : PySem.W.codeIn K cd10 "makers" = true) (k10 : PySem.W.keepIn K (.ref f10) = true)
    (a11 : PySem.W.nsIn K mainGlobals "made" = some (some (.ref f11))) (l11 : K.lookup f11 = some ⟨oc11, od11, .func (PySem.W.fnOf "made" "made" (defArgs s_made) (defBody s_made) (defScope s_made) .none kV11 dc11 pm11 an11 cd11 ct11), sl11⟩) (c11 : PySem.W.codeIn K cd11 "made" = true) (k11 : PySem.W.keepIn K (.ref f11) = true)
    (a12 : PySem.W.nsIn K mainGlobals "run" = some (some (.ref f12))) (l12 : K.lookup f12 = some ⟨oc12, od12, .func (PySem.W.fnOf "run" "run" (defArgs s_run) (defBody s_run) (defScope s_run) .none kV12 dc12 pm12 an12 cd12 ct12), sl12⟩) (c12 : PySem.W.codeIn K cd12 "run" = true) (k12 : PySem.W.keepIn K (.ref f12) = true)
    (a13 : PySem.W.nsIn K mainGlobals "_law_cell_at" = some (some (.ref f13))) (l13 : K.lookup f13 = some ⟨oc13, od13, .func (PySem.W.fnOf "_law_cell_at" "_law_cell_at" (defArgs s_law_cell_at) (defBody s_law_cell_at) (defScope s_law_cell_at) .none kV13 dc13 pm13 an13 cd13 ct13), sl13⟩) (c13 : PySem.W.codeIn K cd13 "_law_cell_at" = true) (k13 : PySem.W.keepIn K (.ref f13) = true)
    (a14 : PySem.W.nsIn K mainGlobals "_law_whole" = some (some (.ref f14))) (l14 : K.lookup f14 = some ⟨oc14, od14, .func (PySem.W.fnOf "_law_whole" "_law_whole" (defArgs s_law_whole) (defBody s_law_whole) (defScope s_law_whole) .none kV14 dc14 pm14 an14 cd14 ct14), sl14⟩) (c14 : PySem.W.codeIn K cd14 "_law_whole" = true) (k14 : PySem.W.keepIn K (.ref f14) = true)
    (a15 : PySem.W.nsIn K mainGlobals "_law_name" = some (some (.ref f15))) (l15 : K.lookup f15 = some ⟨oc15, od15, .func (PySem.W.fnOf "_law_name" "_law_name" (defArgs s_law_name) (defBody s_law_name) (defScope s_law_name) .none kV15 dc15 pm15 an15 cd15 ct15), sl15⟩) (c15 : PySem.W.codeIn K cd15 "_law_name" = true) (k15 : PySem.W.keepIn K (.ref f15) = true)
    (a16 : PySem.W.nsIn K mainGlobals "_law_number" = some (some (.ref f16))) (l16 : K.lookup f16 = some ⟨oc16, od16, .func (PySem.W.fnOf "_law_number" "_law_number" (defArgs s_law_number) (defBody s_law_number) (defScope s_law_number) .none kV16 dc16 pm16 an16 cd16 ct16), sl16⟩) (c16 : PySem.W.codeIn K cd16 "_law_number" = true) (k16 : PySem.W.keepIn K (.ref f16) = true)
    (a17 : PySem.W.nsIn K mainGlobals "_law_kinds" = some (some (.ref f17))) (l17 : K.lookup f17 = some ⟨oc17, od17, .func (PySem.W.fnOf "_law_kinds" "_law_kinds" (defArgs s_law_kinds) (defBody s_law_kinds) (defScope s_law_kinds) .none kV17 dc17 pm17 an17 cd17 ct17), sl17⟩) (c17 : PySem.W.codeIn K cd17 "_law_kinds" = true) (k17 : PySem.W.keepIn K (.ref f17) = true)
    (a18 : PySem.W.nsIn K mainGlobals "_law_terms" = some (some (.ref f18))) (l18 : K.lookup f18 = some ⟨oc18, od18, .func (PySem.W.fnOf "_law_terms" "_law_terms" (defArgs s_law_terms) (defBody s_law_terms) (defScope s_law_terms) .none kV18 dc18 pm18 an18 cd18 ct18), sl18⟩) (c18 : PySem.W.codeIn K cd18 "_law_terms" = true) (k18 : PySem.W.keepIn K (.ref f18) = true)
    (a19 : PySem.W.nsIn K mainGlobals "_law_row" = some (some (.ref f19))) (l19 : K.lookup f19 = some ⟨oc19, od19, .func (PySem.W.fnOf "_law_row" "_law_row" (defArgs s_law_row) (defBody s_law_row) (defScope s_law_row) .none kV19 dc19 pm19 an19 cd19 ct19), sl19⟩) (c19 : PySem.W.codeIn K cd19 "_law_row" = true) (k19 : PySem.W.keepIn K (.ref f19) = true)
    (a20 : PySem.W.nsIn K mainGlobals "_law_words" = some (some (.ref f20))) (l20 : K.lookup f20 = some ⟨oc20, od20, .func (PySem.W.fnOf "_law_words" "_law_words" (defArgs s_law_words) (defBody s_law_words) (defScope s_law_words) .none kV20 dc20 pm20 an20 cd20 ct20), sl20⟩) (c20 : PySem.W.codeIn K cd20 "_law_words" = true) (k20 : PySem.W.keepIn K (.ref f20) = true)
    (a21 : PySem.W.nsIn K mainGlobals "_law_total" = some (some (.ref f21))) (l21 : K.lookup f21 = some ⟨oc21, od21, .func (PySem.W.fnOf "_law_total" "_law_total" (defArgs s_law_total) (defBody s_law_total) (defScope s_law_total) .none kV21 dc21 pm21 an21 cd21 ct21), sl21⟩) (c21 : PySem.W.codeIn K cd21 "_law_total" = true) (k21 : PySem.W.keepIn K (.ref f21) = true)
    (a22 : PySem.W.nsIn K mainGlobals "_law_done" = some (some (.ref f22))) (l22 : K.lookup f22 = some ⟨oc22, od22, .func (PySem.W.fnOf "_law_done" "_law_done" (defArgs s_law_done) (defBody s_law_done) (defScope s_law_done) .none kV22 dc22 pm22 an22 cd22 ct22), sl22⟩) (c22 : PySem.W.codeIn K cd22 "_law_done" = true) (k22 : PySem.W.keepIn K (.ref f22) = true)
    (a23 : PySem.W.nsIn K mainGlobals "law" = some (some (.ref f23))) (l23 : K.lookup f23 = some ⟨oc23, od23, .func (PySem.W.fnOf "law" "law" (defArgs s_law) (defBody s_law) (defScope s_law) .none kV23 dc23 pm23 an23 cd23 ct23), sl23⟩) (c23 : PySem.W.codeIn K cd23 "law" = true) (k23 : PySem.W.keepIn K (.ref f23) = true)
    (a24 : PySem.W.findIn K (.ref CG) "load" = some (some (.ref f24))) (i24 : PySem.W.isFn K (.ref f24) = true) (l24 : K.lookup f24 = some ⟨oc24, od24, .func (PySem.W.fnOf "load" "Going.load" (defArgs s_Going_load) (defBody s_Going_load) (defScope s_Going_load) .none kV24 dc24 pm24 an24 cd24 ct24), sl24⟩) (c24 : PySem.W.codeIn K cd24 "Going.load" = true) (k24 : PySem.W.keepIn K (.ref f24) = true)
    (a25 : PySem.W.findIn K (.ref CG) "begin" = some (some (.ref f25))) (i25 : PySem.W.isFn K (.ref f25) = true) (l25 : K.lookup f25 = some ⟨oc25, od25, .func (PySem.W.fnOf "begin" "Going.begin" (defArgs s_Going_begin) (defBody s_Going_begin) (defScope s_Going_begin) .none kV25 dc25 pm25 an25 cd25 ct25), sl25⟩) (c25 : PySem.W.codeIn K cd25 "Going.begin" = true) (k25 : PySem.W.keepIn K (.ref f25) = true)
    (a26 : PySem.W.findIn K (.ref CG) "go_on" = some (some (.ref f26))) (i26 : PySem.W.isFn K (.ref f26) = true) (l26 : K.lookup f26 = some ⟨oc26, od26, .func (PySem.W.fnOf "go_on" "Going.go_on" (defArgs s_Going_go_on) (defBody s_Going_go_on) (defScope s_Going_go_on) .none kV26 dc26 pm26 an26 cd26 ct26), sl26⟩) (c26 : PySem.W.codeIn K cd26 "Going.go_on" = true) (k26 : PySem.W.keepIn K (.ref f26) = true)
    (a27 : PySem.W.findIn K (.ref CG) "do_row" = some (some (.ref f27))) (i27 : PySem.W.isFn K (.ref f27) = true) (l27 : K.lookup f27 = some ⟨oc27, od27, .func (PySem.W.fnOf "do_row" "Going.do_row" (defArgs s_Going_do_row) (defBody s_Going_do_row) (defScope s_Going_do_row) .none kV27 dc27 pm27 an27 cd27 ct27), sl27⟩) (c27 : PySem.W.codeIn K cd27 "Going.do_row" = true) (k27 : PySem.W.keepIn K (.ref f27) = true)
    (a28 : PySem.W.findIn K (.ref CG) "is_off" = some (some (.ref f28))) (i28 : PySem.W.isFn K (.ref f28) = true) (l28 : K.lookup f28 = some ⟨oc28, od28, .func (PySem.W.fnOf "is_off" "Going.is_off" (defArgs s_Going_is_off) (defBody s_Going_is_off) (defScope s_Going_is_off) .none kV28 dc28 pm28 an28 cd28 ct28), sl28⟩) (c28 : PySem.W.codeIn K cd28 "Going.is_off" = true) (k28 : PySem.W.keepIn K (.ref f28) = true)
    (a29 : PySem.W.findIn K (.ref CG) "early_word" = some (some (.ref f29))) (i29 : PySem.W.isFn K (.ref f29) = true) (l29 : K.lookup f29 = some ⟨oc29, od29, .func (PySem.W.fnOf "early_word" "Going.early_word" (defArgs s_Going_early_word) (defBody s_Going_early_word) (defScope s_Going_early_word) .none kV29 dc29 pm29 an29 cd29 ct29), sl29⟩) (c29 : PySem.W.codeIn K cd29 "Going.early_word" = true) (k29 : PySem.W.keepIn K (.ref f29) = true)
    (a30 : PySem.W.findIn K (.ref CG) "enter" = some (some (.ref f30))) (i30 : PySem.W.isFn K (.ref f30) = true) (l30 : K.lookup f30 = some ⟨oc30, od30, .func (PySem.W.fnOf "enter" "Going.enter" (defArgs s_Going_enter) (defBody s_Going_enter) (defScope s_Going_enter) .none kV30 dc30 pm30 an30 cd30 ct30), sl30⟩) (c30 : PySem.W.codeIn K cd30 "Going.enter" = true) (k30 : PySem.W.keepIn K (.ref f30) = true)
    (a31 : PySem.W.findIn K (.ref CG) "do_work" = some (some (.ref f31))) (i31 : PySem.W.isFn K (.ref f31) = true) (l31 : K.lookup f31 = some ⟨oc31, od31, .func (PySem.W.fnOf "do_work" "Going.do_work" (defArgs s_Going_do_work) (defBody s_Going_do_work) (defScope s_Going_do_work) .none kV31 dc31 pm31 an31 cd31 ct31), sl31⟩) (c31 : PySem.W.codeIn K cd31 "Going.do_work" = true) (k31 : PySem.W.keepIn K (.ref f31) = true)
    (a32 : PySem.W.findIn K (.ref CG) "give" = some (some (.ref f32))) (i32 : PySem.W.isFn K (.ref f32) = true) (l32 : K.lookup f32 = some ⟨oc32, od32, .func (PySem.W.fnOf "give" "Going.give" (defArgs s_Going_give) (defBody s_Going_give) (defScope s_Going_give) .none kV32 dc32 pm32 an32 cd32 ct32), sl32⟩) (c32 : PySem.W.codeIn K cd32 "Going.give" = true) (k32 : PySem.W.keepIn K (.ref f32) = true)
    (a33 : PySem.W.findIn K (.ref CG) "next_told" = some (some (.ref f33))) (i33 : PySem.W.isFn K (.ref f33) = true) (l33 : K.lookup f33 = some ⟨oc33, od33, .func (PySem.W.fnOf "next_told" "Going.next_told" (defArgs s_Going_next_told) (defBody s_Going_next_told) (defScope s_Going_next_told) .none kV33 dc33 pm33 an33 cd33 ct33), sl33⟩) (c33 : PySem.W.codeIn K cd33 "Going.next_told" = true) (k33 : PySem.W.keepIn K (.ref f33) = true)
    (a34 : PySem.W.findIn K (.ref CG) "value_of" = some (some (.ref f34))) (i34 : PySem.W.isFn K (.ref f34) = true) (l34 : K.lookup f34 = some ⟨oc34, od34, .func (PySem.W.fnOf "value_of" "Going.value_of" (defArgs s_Going_value_of) (defBody s_Going_value_of) (defScope s_Going_value_of) .none kV34 dc34 pm34 an34 cd34 ct34), sl34⟩) (c34 : PySem.W.codeIn K cd34 "Going.value_of" = true) (k34 : PySem.W.keepIn K (.ref f34) = true)
    (a35 : PySem.W.findIn K (.ref CG) "thing_value" = some (some (.ref f35))) (i35 : PySem.W.isFn K (.ref f35) = true) (l35 : K.lookup f35 = some ⟨oc35, od35, .func (PySem.W.fnOf "thing_value" "Going.thing_value" (defArgs s_Going_thing_value) (defBody s_Going_thing_value) (defScope s_Going_thing_value) .none kV35 dc35 pm35 an35 cd35 ct35), sl35⟩) (c35 : PySem.W.codeIn K cd35 "Going.thing_value" = true) (k35 : PySem.W.keepIn K (.ref f35) = true)
    (a36 : PySem.W.findIn K (.ref CP) "rows_of" = some (some (.ref f36))) (i36 : PySem.W.isFn K (.ref f36) = true) (l36 : K.lookup f36 = some ⟨oc36, od36, .func (PySem.W.fnOf "rows_of" "PartsWalk.rows_of" (defArgs s_PartsWalk_rows_of) (defBody s_PartsWalk_rows_of) (defScope s_PartsWalk_rows_of) .none kV36 dc36 pm36 an36 cd36 ct36), sl36⟩) (c36 : PySem.W.codeIn K cd36 "PartsWalk.rows_of" = true) (k36 : PySem.W.keepIn K (.ref f36) = true)
    (a37 : PySem.W.findIn K (.ref CP) "key_of" = some (some (.ref f37))) (i37 : PySem.W.isFn K (.ref f37) = true) (l37 : K.lookup f37 = some ⟨oc37, od37, .func (PySem.W.fnOf "key_of" "PartsWalk.key_of" (defArgs s_PartsWalk_key_of) (defBody s_PartsWalk_key_of) (defScope s_PartsWalk_key_of) .none kV37 dc37 pm37 an37 cd37 ct37), sl37⟩) (c37 : PySem.W.codeIn K cd37 "PartsWalk.key_of" = true) (k37 : PySem.W.keepIn K (.ref f37) = true)
    (a38 : PySem.W.findIn K (.ref CP) "loads_of" = some (some (.ref f38))) (i38 : PySem.W.isFn K (.ref f38) = true) (l38 : K.lookup f38 = some ⟨oc38, od38, .func (PySem.W.fnOf "loads_of" "Walk.loads_of" (defArgs s_Walk_loads_of) (defBody s_Walk_loads_of) (defScope s_Walk_loads_of) .none kV38 dc38 pm38 an38 cd38 ct38), sl38⟩) (c38 : PySem.W.codeIn K cd38 "Walk.loads_of" = true) (k38 : PySem.W.keepIn K (.ref f38) = true)
    (a39 : PySem.W.findIn K (.ref CP) "ahead_of" = some (some (.ref f39))) (i39 : PySem.W.isFn K (.ref f39) = true) (l39 : K.lookup f39 = some ⟨oc39, od39, .func (PySem.W.fnOf "ahead_of" "Walk.ahead_of" (defArgs s_Walk_ahead_of) (defBody s_Walk_ahead_of) (defScope s_Walk_ahead_of) .none kV39 dc39 pm39 an39 cd39 ct39), sl39⟩) (c39 : PySem.W.codeIn K cd39 "Walk.ahead_of" = true) (k39 : PySem.W.keepIn K (.ref f39) = true)
    (a40 : PySem.W.findIn K (.ref CP) "go" = some (some (.ref f40))) (i40 : PySem.W.isFn K (.ref f40) = true) (l40 : K.lookup f40 = some ⟨oc40, od40, .func (PySem.W.fnOf "go" "Walk.go" (defArgs s_Walk_go) (defBody s_Walk_go) (defScope s_Walk_go) .none kV40 dc40 pm40 an40 cd40 ct40), sl40⟩) (c40 : PySem.W.codeIn K cd40 "Walk.go" = true) (k40 : PySem.W.keepIn K (.ref f40) = true)
    (a41 : PySem.W.findIn K (.ref CP) "__init__" = some (some (.ref f41))) (i41 : PySem.W.isFn K (.ref f41) = true) (l41 : K.lookup f41 = some ⟨oc41, od41, .func (PySem.W.fnOf "__init__" "PartsWalk.__init__" (defArgs s_PartsWalk___init__) (defBody s_PartsWalk___init__) (defScope s_PartsWalk___init__) .none kV41 dc41 pm41 an41 cd41 ct41), sl41⟩) (c41 : PySem.W.codeIn K cd41 "PartsWalk.__init__" = true) (k41 : PySem.W.keepIn K (.ref f41) = true)
    (a42 : PySem.W.findIn K (.ref CG) "__init__" = some (some (.ref f42))) (i42 : PySem.W.isFn K (.ref f42) = true) (l42 : K.lookup f42 = some ⟨oc42, od42, .func (PySem.W.fnOf "__init__" "Going.__init__" (defArgs s_Going___init__) (defBody s_Going___init__) (defScope s_Going___init__) .none kV42 dc42 pm42 an42 cd42 ct42), sl42⟩) (c42 : PySem.W.codeIn K cd42 "Going.__init__" = true) (k42 : PySem.W.keepIn K (.ref f42) = true)
    (gCP : PySem.W.nsIn K mainGlobals "PartsWalk" = some (some (.ref CP))) (pgCP : PySem.W.plainGet K CP Str.empty = true) (hdCP : PySem.W.hasDictIn K CP = true) (poCP : PySem.W.plainOver K CP = true) (saCP : PySem.W.findIn K (.ref CP) "__setattr__" = some (some (.builtin "object.__setattr__"))) (mkCP : PySem.W.makesIn K CP = true) (kcCP : PySem.W.keepIn K (.ref CP) = true)
    (gCG : PySem.W.nsIn K mainGlobals "Going" = some (some (.ref CG))) (pgCG : PySem.W.plainGet K CG Str.empty = true) (hdCG : PySem.W.hasDictIn K CG = true) (poCG : PySem.W.plainOver K CG = true) (saCG : PySem.W.findIn K (.ref CG) "__setattr__" = some (some (.builtin "object.__setattr__"))) (mkCG : PySem.W.makesIn K CG = true) (kcCG : PySem.W.keepIn K (.ref CG) = true)
    (nGwalk : PySem.W.findIn K (.ref CG) "walk" = some none)
    (nGnumbers : PySem.W.findIn K (.ref CG) "numbers" = some none)
    (nGtaken : PySem.W.findIn K (.ref CG) "taken" = some none)
    (nGbegun : PySem.W.findIn K (.ref CG) "begun" = some none)
    (nGloaded : PySem.W.findIn K (.ref CG) "loaded" = some none)
    (nGgiven : PySem.W.findIn K (.ref CG) "given" = some none)
    (nGwaiting : PySem.W.findIn K (.ref CG) "waiting" = some none)
    (nGtrace : PySem.W.findIn K (.ref CG) "trace" = some none)
    (nGfault : PySem.W.findIn K (.ref CG) "fault" = some none)
    (nProws : PySem.W.findIn K (.ref CP) "rows" = some none)
    (nPmakers : PySem.W.findIn K (.ref CP) "makers" = some none)
    (z0 : PySem.W.nsIn K mainGlobals "len" = some none)
    (z1 : PySem.W.nsIn K mainGlobals "range" = some none)
    (z2 : PySem.W.nsIn K mainGlobals "str" = some none)
    (z3 : PySem.W.nsIn K mainGlobals "tuple" = some none)
    (z4 : PySem.W.nsIn K mainGlobals "list" = some none)
    (z5 : PySem.W.nsIn K mainGlobals "dict" = some none)
    (z6 : PySem.W.nsIn K mainGlobals "enumerate" = some none)
    (z7 : PySem.W.nsIn K mainGlobals "isinstance" = some none)
    (z8 : PySem.W.nsIn K mainGlobals "reversed" = some none)
    (z9 : PySem.W.nsIn K mainGlobals "int" = some none)
    (z10 : PySem.W.nsIn K mainGlobals "bool" = some none) :
    ∃ fd : FuncData, (∀ (s : Shared) (v : Value), BindsTo s fd ⟨[v], []⟩ [("_law_script", v)]) ∧ ∀ base : Heap, K.In base → base.Ns mainGlobals mg → FnOk l.prog w K mg base CX0 20 fa fd ["_law_script"] (spLaw K) := by
  have e := hfa.symm.trans (PySem.W.mg_of X G a23)
  cases e
  have T0 : Txt K mg := ⟨PySem.W.mg_none_of X G z0, PySem.W.mg_none_of X G z1, PySem.W.mg_none_of X G z2, PySem.W.mg_none_of X G z3, PySem.W.mg_none_of X G z4, PySem.W.mg_none_of X G z5, PySem.W.mg_none_of X G z6, PySem.W.mg_none_of X G z7, PySem.W.mg_none_of X G z8, PySem.W.mg_none_of X G z9, PySem.W.mg_none_of X G z10, hasDef_mk X G a0 l0 c0 k0, hasDef_mk X G a1 l1 c1 k1, hasDef_mk X G a2 l2 c2 k2, hasDef_mk X G a3 l3 c3 k3, hasDef_mk X G a4 l4 c4 k4, hasDef_mk X G a5 l5 c5 k5, hasDef_mk X G a6 l6 c6 k6, hasDef_mk X G a7 l7 c7 k7, hasDef_mk X G a8 l8 c8 k8, hasDef_mk X G a9 l9 c9 k9, hasDef_mk X G a10 l10 c10 k10, hasDef_mk X G a11 l11 c11 k11, hasDef_mk X G a12 l12 c12 k12, hasDef_mk X G a13 l13 c13 k13, hasDef_mk X G a14 l14 c14 k14, hasDef_mk X G a15 l15 c15 k15, hasDef_mk X G a16 l16 c16 k16, hasDef_mk X G a17 l17 c17 k17, hasDef_mk X G a18 l18 c18 k18, hasDef_mk X G a19 l19 c19 k19, hasDef_mk X G a20 l20 c20 k20, hasDef_mk X G a21 l21 c21 k21, hasDef_mk X G a22 l22 c22 k22⟩
  have T : Tc K mg CP CG := ⟨T0, ⟨pgCP, hdCP, poCP, saCP⟩, ⟨pgCG, hdCG, poCG, saCG⟩, PySem.W.mg_of X G gCP, PySem.W.mg_of X G gCG, nGwalk, nGnumbers, nGtaken, nGbegun, nGloaded, nGgiven, nGwaiting, nGtrace, nGfault, nProws, nPmakers, hasM_mk a24 i24 l24 c24 k24, hasM_mk a25 i25 l25 c25 k25, hasM_mk a26 i26 l26 c26 k26, hasM_mk a27 i27 l27 c27 k27, hasM_mk a28 i28 l28 c28 k28, hasM_mk a29 i29 l29 c29 k29, hasM_mk a30 i30 l30 c30 k30, hasM_mk a31 i31 l31 c31 k31, hasM_mk a32 i32 l32 c32 k32, hasM_mk a33 i33 l33 c33 k33, hasM_mk a34 i34 l34 c34 k34, hasM_mk a35 i35 l35 c35 k35, hasM_mk a36 i36 l36 c36 k36, hasM_mk a37 i37 l37 c37 k37, hasM_mk a38 i38 l38 c38 k38, hasM_mk a39 i39 l39 c39 k39, hasM_mk a40 i40 l40 c40 k40, hasI_mk mkCP a41 i41 kcCP l41 c41 k41, hasI_mk mkCG a42 i42 kcCG l42 c42 k42⟩
  exact ⟨_, fun s v => .of_eq rfl, fun base _ _ => law_fn (fun_mk (st := s_law) l23 c23 k23) T⟩
theorem walk {l : PySem.W.OpenLaw} {q : Program} {loose : List Str} {XP : (Str → Option Value) → Heap → Prop} {YP : World → Heap → Prop} {d : DefRec} {K : Params → PySem.W.Frag} (hn : l.most = some 63) (hdf : d.params.defaults = [])
    (hY : ∀ (w : World) (h : Heap), YP w h → (K w.params).In h)
    (F : ∀ (w : World) (mg : Str → Option Value) (fa : Addr) (h : Heap), (K w.params).In h → h.Ns mainGlobals mg → mg d.name = some (.ref fa) →
      ∃ fd : FuncData, (∀ (s : Shared) (u : Value), BindsTo s fd ⟨[u], []⟩ [("_law_script", u)]) ∧ ∀ base : Heap, (K w.params).In base → base.Ns mainGlobals mg → FnOk l.prog w (K w.params) mg base CX0 20 fa fd ["_law_script"] (spLaw (K w.params))) :
    PySem.W.WalkO q loose XP YP l.row.toRowW d [] (fun f vs => PySem.call f vs) :=
  L2.walk_of (n := 63) (k := 20) (x := "_law_script") (CX := fun _ => CX0) (sp := fun w => spLaw (K w.params)) hn (by decide) hdf ⟨rfl, by decide, by decide⟩ hY F (fun _ _ a ns hl _ hS => ⟨a, ns, rfl, hS, hl, fun _ => rfl⟩) fun _ _ _ _ _ z => z
end K22
open PySem PySem.W PyProof.Rows
set_option maxRecDepth 100000 in
set_option maxHeartbeats 0 in
theorem PySem.Challenge.cw_bundlehouse_k22_faults_in_a_part_holds : PySem.Challenge.rw_bundlehouse_k22_faults_in_a_part.Holds := by
  w_on
  refine HD.head_of (l := PySem.Challenge.rw_bundlehouse_k22_faults_in_a_part) (q := HD.cutTo PySem.Challenge.rw_bundlehouse_k22_faults_in_a_part.prog [1, 2, 3, 4, 5, 6, 7, 9, 10, 11, 12, 13, 15, 16, 17, 18, 20, 21, 22, 23, 24, 25, 26, 27, 28, 29, 30]) (K := K22.heapK) (as := K22.heapA) (N := 4304) K22.heapE K22.said K22.top_run (by rfl) (by rfl) (by rfl) (by rfl) (by decide +kernel) ⟨rfl, rfl, rfl, rfl, rfl, by decide +kernel⟩ ?hw ?hc
  (case hw => w_witness2)
  k_fill
  refine K22.walk (l := PySem.Challenge.rw_bundlehouse_k22_faults_in_a_part) rfl rfl (fun w h Y => PySem.W.kIn_of Y) ?F
  case F =>
    intro w mg fa h KX G hmg
    refine' K22.all_mk KX G hmg ?a0 ?l0 ?c0 ?k0 ?a1 ?l1 ?c1 ?k1 ?a2 ?l2 ?c2 ?k2 ?a3 ?l3 ?c3 ?k3 ?a4 ?l4 ?c4 ?k4 ?a5 ?l5 ?c5 ?k5 ?a6 ?l6 ?c6 ?k6 ?a7 ?l7 ?c7 ?k7 ?a8 ?l8 ?c8 ?k8 ?a9 ?l9 ?c9 ?k9 ?a10 ?l10 ?c10 ?k10 ?a11 ?l11 ?c11 ?k11 ?a12 ?l12 ?c12 ?k12 ?a13 ?l13 ?c13 ?k13 ?a14 ?l14 ?c14 ?k14 ?a15 ?l15 ?c15 ?k15 ?a16 ?l16 ?c16 ?k16 ?a17 ?l17 ?c17 ?k17 ?a18 ?l18 ?c18 ?k18 ?a19 ?l19 ?c19 ?k19 ?a20 ?l20 ?c20 ?k20 ?a21 ?l21 ?c21 ?k21 ?a22 ?l22 ?c22 ?k22 ?a23 ?l23 ?c23 ?k23 ?a24 ?i24 ?l24 ?c24 ?k24 ?a25 ?i25 ?l25 ?c25 ?k25 ?a26 ?i26 ?l26 ?c26 ?k26 ?a27 ?i27 ?l27 ?c27 ?k27 ?a28 ?i28 ?l28 ?c28 ?k28 ?a29 ?i29 ?l29 ?c29 ?k29 ?a30 ?i30 ?l30 ?c30 ?k30 ?a31 ?i31 ?l31 ?c31 ?k31 ?a32 ?i32 ?l32 ?c32 ?k32 ?a33 ?i33 ?l33 ?c33 ?k33 ?a34 ?i34 ?l34 ?c34 ?k34 ?a35 ?i35 ?l35 ?c35 ?k35 ?a36 ?i36 ?l36 ?c36 ?k36 ?a37 ?i37 ?l37 ?c37 ?k37 ?a38 ?i38 ?l38 ?c38 ?k38 ?a39 ?i39 ?l39 ?c39 ?k39 ?a40 ?i40 ?l40 ?c40 ?k40 ?a41 ?i41 ?l41 ?c41 ?k41 ?a42 ?i42 ?l42 ?c42 ?k42 ?gCP ?pgCP ?hdCP ?poCP ?saCP ?mkCP ?kcCP ?gCG ?pgCG ?hdCG ?poCG ?saCG ?mkCG ?kcCG ?nGwalk ?nGnumbers ?nGtaken ?nGbegun ?nGloaded ?nGgiven ?nGwaiting ?nGtrace ?nGfault ?nProws ?nPmakers ?z0 ?z1 ?z2 ?z3 ?z4 ?z5 ?z6 ?z7 ?z8 ?z9 ?z10
    (case gCP => k_is)
    (case gCG => k_is)
    (case a0 => k_is)
    (case l0 => k_is)
    (case c0 => k_is)
    (case k0 => k_is)
    (case a1 => k_is)
    (case l1 => k_is)
    (case c1 => k_is)
    (case k1 => k_is)
    (case a2 => k_is)
    (case l2 => k_is)
    (case c2 => k_is)
    (case k2 => k_is)
    (case a3 => k_is)
    (case l3 => k_is)
    (case c3 => k_is)
    (case k3 => k_is)
    (case a4 => k_is)
    (case l4 => k_is)
    (case c4 => k_is)
    (case k4 => k_is)
    (case a5 => k_is)
    (case l5 => k_is)
    (case c5 => k_is)
    (case k5 => k_is)
    (case a6 => k_is)
    (case l6 => k_is)
    (case c6 => k_is)
    (case k6 => k_is)
    (case a7 => k_is)
    (case l7 => k_is)
    (case c7 => k_is)
    (case k7 => k_is)
    (case a8 => k_is)
    (case l8 => k_is)
    (case c8 => k_is)
    (case k8 => k_is)
    (case a9 => k_is)
    (case l9 => k_is)
    (case c9 => k_is)
    (case k9 => k_is)
    (case a10 => k_is)
    (case l10 => k_is)
    (case c10 => k_is)
    (case k10 => k_is)
    (case a11 => k_is)
    (case l11 => k_is)
    (case c11 => k_is)
    (case k11 => k_is)
    (case a12 => k_is)
    (case l12 => k_is)
    (case c12 => k_is)
    (case k12 => k_is)
    (case a13 => k_is)
    (case l13 => k_is)
    (case c13 => k_is)
    (case k13 => k_is)
    (case a14 => k_is)
    (case l14 => k_is)
    (case c14 => k_is)
    (case k14 => k_is)
    (case a15 => k_is)
    (case l15 => k_is)
    (case c15 => k_is)
    (case k15 => k_is)
    (case a16 => k_is)
    (case l16 => k_is)
    (case c16 => k_is)
    (case k16 => k_is)
    (case a17 => k_is)
    (case l17 => k_is)
    (case c17 => k_is)
    (case k17 => k_is)
    (case a18 => k_is)
    (case l18 => k_is)
    (case c18 => k_is)
    (case k18 => k_is)
    (case a19 => k_is)
    (case l19 => k_is)
    (case c19 => k_is)
    (case k19 => k_is)
    (case a20 => k_is)
    (case l20 => k_is)
    (case c20 => k_is)
    (case k20 => k_is)
    (case a21 => k_is)
    (case l21 => k_is)
    (case c21 => k_is)
    (case k21 => k_is)
    (case a22 => k_is)
    (case l22 => k_is)
    (case c22 => k_is)
    (case k22 => k_is)
    (case a23 => k_is)
    (case l23 => k_is)
    (case c23 => k_is)
    (case k23 => k_is)
    (case a24 => k_is)
    (case i24 => k_is)
    (case l24 => k_is)
    (case c24 => k_is)
    (case k24 => k_is)
    (case a25 => k_is)
    (case i25 => k_is)
    (case l25 => k_is)
    (case c25 => k_is)
    (case k25 => k_is)
    (case a26 => k_is)
    (case i26 => k_is)
    (case l26 => k_is)
    (case c26 => k_is)
    (case k26 => k_is)
    (case a27 => k_is)
    (case i27 => k_is)
    (case l27 => k_is)
    (case c27 => k_is)
    (case k27 => k_is)
    (case a28 => k_is)
    (case i28 => k_is)
    (case l28 => k_is)
    (case c28 => k_is)
    (case k28 => k_is)
    (case a29 => k_is)
    (case i29 => k_is)
    (case l29 => k_is)
    (case c29 => k_is)
    (case k29 => k_is)
    (case a30 => k_is)
    (case i30 => k_is)
    (case l30 => k_is)
    (case c30 => k_is)
    (case k30 => k_is)
    (case a31 => k_is)
    (case i31 => k_is)
    (case l31 => k_is)
    (case c31 => k_is)
    (case k31 => k_is)
    (case a32 => k_is)
    (case i32 => k_is)
    (case l32 => k_is)
    (case c32 => k_is)
    (case k32 => k_is)
    (case a33 => k_is)
    (case i33 => k_is)
    (case l33 => k_is)
    (case c33 => k_is)
    (case k33 => k_is)
    (case a34 => k_is)
    (case i34 => k_is)
    (case l34 => k_is)
    (case c34 => k_is)
    (case k34 => k_is)
    (case a35 => k_is)
    (case i35 => k_is)
    (case l35 => k_is)
    (case c35 => k_is)
    (case k35 => k_is)
    (case a36 => k_is)
    (case i36 => k_is)
    (case l36 => k_is)
    (case c36 => k_is)
    (case k36 => k_is)
    (case a37 => k_is)
    (case i37 => k_is)
    (case l37 => k_is)
    (case c37 => k_is)
    (case k37 => k_is)
    (case a38 => k_is)
    (case i38 => k_is)
    (case l38 => k_is)
    (case c38 => k_is)
    (case k38 => k_is)
    (case a39 => k_is)
    (case i39 => k_is)
    (case l39 => k_is)
    (case c39 => k_is)
    (case k39 => k_is)
    (case a40 => k_is)
    (case i40 => k_is)
    (case l40 => k_is)
    (case c40 => k_is)
    (case k40 => k_is)
    (case a41 => k_is)
    (case i41 => k_is)
    (case l41 => k_is)
    (case c41 => k_is)
    (case k41 => k_is)
    (case a42 => k_is)
    (case i42 => k_is)
    (case l42 => k_is)
    (case c42 => k_is)
    (case k42 => k_is)
    (case pgCP => k_is)
    (case hdCP => k_is)
    (case poCP => k_is)
    (case saCP => k_is)
    (case mkCP => k_is)
    (case kcCP => k_is)
    (case pgCG => k_is)
    (case hdCG => k_is)
    (case poCG => k_is)
    (case saCG => k_is)
    (case mkCG => k_is)
    (case kcCG => k_is)
    (case nGwalk => k_is)
    (case nGnumbers => k_is)
    (case nGtaken => k_is)
    (case nGbegun => k_is)
    (case nGloaded => k_is)
    (case nGgiven => k_is)
    (case nGwaiting => k_is)
    (case nGtrace => k_is)
    (case nGfault => k_is)
    (case nProws => k_is)
    (case nPmakers => k_is)
    (case z0 => k_is)
    (case z1 => k_is)
    (case z2 => k_is)
    (case z3 => k_is)
    (case z4 => k_is)
    (case z5 => k_is)
    (case z6 => k_is)
    (case z7 => k_is)
    (case z8 => k_is)
    (case z9 => k_is)
    (case z10 => k_is)