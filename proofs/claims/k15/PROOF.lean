import PyProof.Rows.All
import Wide.All
import OpenK.AllK
import Wide.FinOn
import Lean
import PyProof.EqAt
import PyProof.EqKinds
import PyProof.TupleCall
import PySem.Challenge.RW_bundlehouse_k15_begun_order
set_option Elab.async false
set_option linter.all false
set_option maxRecDepth 100000
/-! THE HAND LAYER, for ints, bools, texts, own classes, LISTS and tuples (index, slices, in, append, pop ..), calls, loops. Paste it whole ahead of your own text; what your proof does not reach may be deleted. -/
namespace L2
open PySem PySem.Spec PyProof.Rows

/-- a key: an int or a str -/
abbrev Key := Sum Int Str
def keyIs : Key → Value → Bool
  | .inl k, v => Value.isInt k v
  | .inr x, v => Value.isStrOf x v
def keyH (w : World) : Key → Int
  | .inl k => hashInt k
  | .inr x => hashStr w x
theorem keyIs_shape : ∀ {k : Key} {v : Value}, keyIs k v = true → (∃ i t, k = Sum.inl i ∧ v = Value.int i t) ∨ (∃ x t, k = Sum.inr x ∧ v = Value.str x t)
  | .inl i, v, h => by
    obtain ⟨t, e⟩ := Value.isInt_shape (k := i) (v := v) h
    exact .inl ⟨i, t, rfl, e⟩
  | .inr x, v, h => by
    obtain ⟨t, e⟩ := Value.isStrOf_shape (x := x) (v := v) h
    exact .inr ⟨x, t, rfl, e⟩
theorem keyIs_int (i : Int) (t : Tok) : keyIs (.inl i) (.int i t) = true := by simp [keyIs, Value.isInt]
theorem keyIs_str (x : Str) (t : Tok) : keyIs (.inr x) (.str x t) = true := by simp [keyIs, Value.isStrOf]
theorem key_ll (a b : Int) : decide ((Sum.inl a : Key) = Sum.inl b) = (a == b) := by
  by_cases e : a = b
  · subst e; simp
  · have h : ¬ (Sum.inl a : Key) = Sum.inl b := fun q => e (Sum.inl.inj q)
    rw [decide_eq_false h]
    exact (beq_eq_false_iff_ne.mpr e).symm
theorem key_rr (a b : Str) : decide ((Sum.inr a : Key) = Sum.inr b) = decide (a = b) := by
  by_cases e : a = b
  · subst e; simp
  · have h : ¬ (Sum.inr a : Key) = Sum.inr b := fun q => e (Sum.inr.inj q)
    rw [decide_eq_false h, decide_eq_false e]
theorem key_lr (a : Int) (b : Str) : decide ((Sum.inl a : Key) = Sum.inr b) = false := decide_eq_false (fun q => nomatch q)
theorem key_rl (a : Str) (b : Int) : decide ((Sum.inr a : Key) = Sum.inl b) = false := decide_eq_false (fun q => nomatch q)

def mixKind (prog : Program) (w : World) : PySem.KeyKind prog w Key where
  is := keyIs
  hash := keyH w
  inj := fun v a b ha hb => by
    rcases keyIs_shape ha with ⟨i, t, rfl, rfl⟩ | ⟨x, t, rfl, rfl⟩
    · rcases keyIs_shape hb with ⟨j, u, rfl, e⟩ | ⟨y, u, rfl, e⟩
      · injection e with e1 _; rw [e1]
      · exact nomatch e
    · rcases keyIs_shape hb with ⟨j, u, rfl, e⟩ | ⟨y, u, rfl, e⟩
      · exact nomatch e
      · injection e with e1 _; rw [e1]
  byValue := fun k v h => by
    rcases keyIs_shape h with ⟨i, t, rfl, rfl⟩ | ⟨x, t, rfl, rfl⟩ <;> rfl
  pyHash := fun hv h => by
    rcases keyIs_shape hv with ⟨i, t, rfl, rfl⟩ | ⟨x, t, rfl, rfl⟩
    · exact wpAny_pyHash_int h
    · exact wpAny_pyHash_str h
  eqBool := fun hu hv h => by
    rcases keyIs_shape hu with ⟨i, t, rfl, rfl⟩ | ⟨x, t, rfl, rfl⟩
    · rcases keyIs_shape hv with ⟨j, u, rfl, rfl⟩ | ⟨y, u, rfl, rfl⟩
      · rw [key_ll] at h; exact wpAny_eqBool_int h
      · rw [key_lr] at h; exact SeqAt.EqAt.int_str i t y u _ _ _ _ h
    · rcases keyIs_shape hv with ⟨j, u, rfl, rfl⟩ | ⟨y, u, rfl, rfl⟩
      · rw [key_rl] at h; exact SeqAt.EqAt.str_int x t j u _ _ _ _ h
      · rw [key_rr] at h; exact wpAny_eqBool_str h
  «strs» := fun k x t v h => by
    rcases keyIs_shape h with ⟨i, u, rfl, e⟩ | ⟨y, u, rfl, e⟩
    · exact nomatch e
    · injection e with e1 _
      subst e1
      cases v <;> rfl

theorem mixKind_is (prog : Program) (w : World) (k : Key) (v : Value) : (mixKind prog w).is k v = keyIs k v := rfl
theorem mixKind_int (prog : Program) (w : World) (i : Int) (t : Tok) : (mixKind prog w).is (.inl i) (.int i t) = true := keyIs_int i t
theorem mixKind_str (prog : Program) (w : World) (x : Str) (t : Tok) : (mixKind prog w).is (.inr x) (.str x t) = true := keyIs_str x t
end L2

namespace L2
open PySem PySem.Spec PyProof.Rows

/-- a value, without the heap -/
inductive V where
  | non | bl (b : Bool) | int (i : Int) | str (x : Str) | byt (b : Array UInt8) | flt (b : UInt64) | ref (a : Addr) | ty (n : String)
  deriving DecidableEq

def RelV : V → Value → Prop
  | .non, u => u = Value.none
  | .bl b, u => u = Value.bool b
  | .int i, u => ∃ t, u = Value.int i t
  | .str x, u => ∃ t, u = Value.str x t
  | .byt b, u => ∃ t, u = Value.bytes b t
  | .flt b, u => ∃ t, u = Value.float b t
  | .ref a, u => u = Value.ref a
  | .ty n, u => u = Value.type n

abbrev Vals : List V → List Value → Prop := Paired RelV
theorem Vals.length {xs : List V} {us : List Value} (r : Vals xs us) : xs.length = us.length := Paired.length r
theorem Vals.get : ∀ {xs : List V} {us : List Value} {i : Nat} {x : V}, Vals xs us → xs[i]? = some x → ∃ u, us[i]? = some u ∧ RelV x u
  | _, _, _, _, .nil, e => by simp at e
  | _, _, 0, _, .cons r _, e => by simp at e; subst e; exact ⟨_, rfl, r⟩
  | _, _, i + 1, x, .cons _ t, e => by
    obtain ⟨u, h1, h2⟩ := Vals.get (i := i) (x := x) t (by simpa using e)
    exact ⟨u, by simpa using h1, h2⟩
theorem Vals.set {x : V} {u : Value} (r : RelV x u) : ∀ {xs : List V} {us : List Value} (i : Nat), Vals xs us → Vals (xs.set i x) (us.set i u)
  | _, _, _, .nil => .nil
  | _, _, 0, .cons _ t => .cons r t
  | _, _, i + 1, .cons q t => .cons q (Vals.set r i t)
theorem Vals.append : ∀ {xs ys : List V} {us ws : List Value}, Vals xs us → Vals ys ws → Vals (xs ++ ys) (us ++ ws)
  | _, _, _, _, .nil, s => s
  | _, _, _, _, .cons r t, s => .cons r (Vals.append t s)
theorem Vals.take : ∀ {xs : List V} {us : List Value} (n : Nat), Vals xs us → Vals (xs.take n) (us.take n)
  | _, _, 0, _ => .nil
  | _, _, _ + 1, .nil => .nil
  | _, _, n + 1, .cons r t => .cons r (Vals.take n t)
theorem Vals.drop : ∀ {xs : List V} {us : List Value} (n : Nat), Vals xs us → Vals (xs.drop n) (us.drop n)
  | _, _, 0, r => r
  | _, _, _ + 1, .nil => .nil
  | _, _, n + 1, .cons _ t => Vals.drop n t
theorem Vals.none_of : ∀ {xs : List V} {us : List Value} {i : Nat}, Vals xs us → xs[i]? = none → us[i]? = none := fun {xs us i} r e => by
  have h1 := r.length
  have h2 : xs.length ≤ i := List.getElem?_eq_none_iff.mp e
  exact List.getElem?_eq_none_iff.mpr (by omega)

def RelO : Option V → Option Value → Prop
  | some v, some u => RelV v u
  | none, none => True
  | _, _ => False
def KV {κ : Type} : List (κ × V) → List (κ × Value) → Prop := Paired fun (p : κ × V) (q : κ × Value) => p.1 = q.1 ∧ RelV p.2 q.2

/-- a key of a dict (00_mix): an int or a text -/
def kV : Key → V
  | .inl i => .int i
  | .inr x => .str x

/-- what stands at a tracked address -/
inductive HO where
  /-- a list -/
  | lst (xs : List V)
  /-- a tuple (never changes) -/
  | tup (xs : List V)
  /-- a dict whose keys are ints and texts; one whose keys are tuples of ints and texts (the empty one is both) -/
  | dK (kvs : List (Key × V)) | dT (kvs : List (List Key × V))
  /-- a set of ints: its members, its size -/
  | set (S : Int → Bool) (n : Nat)
  /-- an instance of the class at C, its dict at dx, its attributes -/
  | ins (C dx : Addr) (fs : List (Str × V))
  /-- the dict of the instance at x -/
  | own (x : Addr)
  /-- the dict of an exception -/
  | xd (fs : List (Str × V))
  /-- a bound method, f of x -/
  | met (f x : Addr)
  /-- a range object lo, lo + 1, .. below hi -/
  | rng (lo hi : Int)
  /-- a thing that is known to the object (the script; a dict while a loop walks it): read, never written while it is so -/
  | frz (o : Obj) (u : HO)
  /-- a code object's table -/
  | tbl (ps : Array Value)
  /-- any other thing, by what is true of its one object (a def of one's own: SetO a S n := HO.ext fun h => ..) -/
  | ext (φ : Heap → Prop)

abbrev Hp := Addr → Option HO
def upd (H : Hp) (a : Addr) (o : HO) : Hp := fun b => if b = a then some o else H b
theorem upd_same {H : Hp} {a : Addr} {o : HO} : upd H a o a = some o := by unfold upd; rw [if_pos rfl]
theorem upd_ne {H : Hp} {a b : Addr} {o : HO} (h : b ≠ a) : upd H a o b = H b := by unfold upd; rw [if_neg h]
theorem upd_upd {H : Hp} {a : Addr} {o u : HO} : upd (upd H a o) a u = upd H a u := by
  funext b; unfold upd; split <;> rfl
/-- two objects of different content stand apart -/
theorem ne_of {H : Hp} {a b : Addr} {o u : HO} (h : H a = some o) (h' : H b = some u) (d : o ≠ u) : a ≠ b := by
  intro e; subst e; rw [h] at h'; exact d (Option.some.inj h')
theorem ne_of_none {H : Hp} {a b : Addr} {o : HO} (h : H a = some o) (h' : H b = none) : a ≠ b := by
  intro e; subst e; rw [h] at h'; cases h'

section
variable (P : Program) (w : World)
def ObjOk (H : Hp) (h : Heap) (a : Addr) : HO → Prop
  | .lst xs => xs.length ≤ sizeLine ∧ ∃ (its : List Value) (n : Nat), Vals xs its ∧ h.get? a = some { cls := .type "list", data := .seq its.toArray n }
  | .tup xs => xs.length ≤ sizeLine ∧ ∃ its : List Value, Vals xs its ∧ IsTup h a its.toArray
  | .dK kvs => kvs.length ≤ sizeLine ∧ (a == sysModules) = false ∧ ∃ vs, KV kvs vs ∧ h.DictOf (mixKind P w) a vs
  | .dT kvs => kvs.length ≤ sizeLine ∧ (a == sysModules) = false ∧ ∃ xs : List (List Key × Addr × Value),
      Paired (fun (p : List Key × V) (q : List Key × Addr × Value) => p.1 = q.1 ∧ H q.2.1 = some (.tup (p.1.map kV)) ∧ RelV p.2 q.2.2) kvs xs ∧
      ∃ o es ep, h.get? a = some o ∧ o.ExactDict ∧ o.data = .dict es ep ∧ es.toList = xs.map (entryOfKey (tupleKind (mixKind P w))) ∧ (xs.map (·.1)).Nodup
  | .set S n => h.SetOf (intKind P w) a S n
  | .ins C dx fs => H dx = some (.own a) ∧ fs.length ≤ 1000 ∧ dx ≠ a ∧ h.get? a = some (PySem.W.instObj C dx) ∧
      ∃ mA, h.Ns1 dx mA ∧ (∀ f, RelO (fs.lookup f) (mA f)) ∧ PySem.Within mA (fs.map (·.1))
  | .own _ => ∃ o, h.get? a = some o
  | .xd fs => ∃ mA, h.Ns1 a mA ∧ ∀ f, RelO (fs.lookup f) (mA f)
  | .rng lo hi => ∃ t u v, h.get? a = some { cls := .type "range", data := .fields #[.int lo t, .int hi u, .int 1 v] }
  | .frz o u => h.get? a = some o ∧ ObjOk H h a u
  | .tbl ps => h.get? a = some { cls := .none, data := .fields ps }
  | .met f x => h.get? a = some (PySem.W.methodObj (.ref f) (.ref x))
  | .ext φ => φ h ∧ (∃ o, h.get? a = some o) ∧ ∀ h1 h2 : Heap, φ h1 → (∀ o, h1.get? a = some o → h2.get? a = some o) → φ h2
/-- the abstract heap is held -/
def HOk (H : Hp) (h : Heap) : Prop := ∀ a o, H a = some o → ObjOk P w H h a o
end

section
variable {P : Program} {w : World} {H H' : Hp} {h h' : Heap} {a : Addr} {o : HO}
theorem ObjOk.lt (x : ObjOk P w H h a o) : a < h.objs.size := by
  cases o with
  | lst xs => obtain ⟨_, _, _, _, e⟩ := x; exact Heap.lt_size e
  | tup xs => obtain ⟨_, _, _, p⟩ := x; exact p.lt
  | dK kvs => obtain ⟨_, _, _, _, o, _, _, e, _⟩ := x; exact Heap.lt_size e
  | dT kvs => obtain ⟨_, _, _, _, o, _, _, e, _⟩ := x; exact Heap.lt_size e
  | set S n => obtain ⟨o, _, _, _, e, _⟩ := x; exact Heap.lt_size e
  | ins C dx fs => obtain ⟨_, _, _, e, _⟩ := x; exact Heap.lt_size e
  | own y => obtain ⟨_, e⟩ := x; exact Heap.lt_size e
  | xd fs => obtain ⟨_, ⟨_, _, _, e, _⟩, _⟩ := x; exact Heap.lt_size e
  | rng lo hi => obtain ⟨_, _, _, e⟩ := x; exact Heap.lt_size e
  | frz ob u => obtain ⟨e, _⟩ := x; exact Heap.lt_size e
  | tbl ps => exact Heap.lt_size (show h.get? a = some _ from x)
  | met f y => exact Heap.lt_size (show h.get? a = some _ from x)
  | ext φ => obtain ⟨_, ⟨_, e⟩, _⟩ := x; exact Heap.lt_size e
theorem Paired.mapP {α β : Type} {F G : α → β → Prop} : ∀ {l₁ : List α} {l₂ : List β}, Paired F l₁ l₂ → (∀ a b, F a b → G a b) → Paired G l₁ l₂
  | _, _, .nil, _ => .nil
  | _, _, .cons r t, f => .cons (f _ _ r) (Paired.mapP t f)
theorem Paired.imp' {α β : Type} {F G : α → β → Prop} (f : ∀ a b, F a b → G a b) {l₁ : List α} {l₂ : List β} (r : Paired F l₁ l₂) : Paired G l₁ l₂ := Paired.mapP r f
/-- what an object's description leans on: its own object, its own dict, the tuples -/
theorem ObjOk.stay (x : ObjOk P w H h a o) (k : ∀ b u, (b = a ∨ H b = some (.own a)) → h.get? b = some u → h'.get? b = some u)
    (ho : ∀ b, H b = some (.own a) → H' b = some (.own a)) (ht : ∀ b xs, H b = some (.tup xs) → H' b = some (.tup xs)) : ObjOk P w H' h' a o := by
  induction o with
  | lst xs => obtain ⟨z, its, n, r, e⟩ := x; exact ⟨z, its, n, r, k _ _ (.inl rfl) e⟩
  | tup xs => obtain ⟨z, its, r, ob, e, c⟩ := x; exact ⟨z, its, r, ob, k _ _ (.inl rfl) e, c⟩
  | dK kvs => obtain ⟨z, y, vs, r, ob, es, ep, e, c⟩ := x; exact ⟨z, y, vs, r, ob, es, ep, k _ _ (.inl rfl) e, c⟩
  | dT kvs =>
    obtain ⟨z, y, xs, r, ob, es, ep, e, c⟩ := x
    exact ⟨z, y, xs, Paired.mapP r fun p q z => ⟨z.1, ht _ _ z.2.1, z.2.2⟩, ob, es, ep, k _ _ (.inl rfl) e, c⟩
  | set S n => obtain ⟨ob, es, ep, t, e, c⟩ := x; exact ⟨ob, es, ep, t, k _ _ (.inl rfl) e, c⟩
  | ins C dx fs =>
    obtain ⟨d, z, ne, e, mA, ⟨od, es, ep, e2, c⟩, r⟩ := x
    exact ⟨ho _ d, z, ne, k _ _ (.inl rfl) e, mA, ⟨od, es, ep, k _ _ (.inr d) e2, c⟩, r⟩
  | own y => obtain ⟨ob, e⟩ := x; exact ⟨ob, k _ _ (.inl rfl) e⟩
  | xd fs => obtain ⟨mA, ⟨od, es, ep, e, c⟩, r⟩ := x; exact ⟨mA, ⟨od, es, ep, k _ _ (.inl rfl) e, c⟩, r⟩
  | rng lo hi => obtain ⟨t, u, v, e⟩ := x; exact ⟨t, u, v, k _ _ (.inl rfl) e⟩
  | frz ob u ih => obtain ⟨e, q⟩ := x; exact ⟨k _ _ (.inl rfl) e, ih q⟩
  | tbl ps =>
    have e : h.get? a = some { cls := .none, data := .fields ps } := x
    show h'.get? a = some { cls := .none, data := .fields ps }
    exact k a _ (.inl rfl) e
  | met f y =>
    have e : h.get? a = some (PySem.W.methodObj (.ref f) (.ref y)) := x
    show h'.get? a = some (PySem.W.methodObj (.ref f) (.ref y))
    exact k a _ (.inl rfl) e
  | ext φ => obtain ⟨p, ⟨o, e⟩, st⟩ := x; exact ⟨st _ _ p fun o q => k _ _ (.inl rfl) q, ⟨o, k _ _ (.inl rfl) e⟩, st⟩
theorem HOk.lt (x : HOk P w H h) (e : H a = some o) : a < h.objs.size := (x a o e).lt
theorem HOk.fresh (x : HOk P w H h) (e : h.objs.size ≤ a) : H a = none := by
  cases q : H a with
  | none => rfl
  | some u => exact absurd (Nat.lt_of_lt_of_le (x.lt q) e) (Nat.lt_irrefl _)
/-- every object of the heap is kept -/
theorem HOk.kept (x : HOk P w H h) (k : ∀ b u, h.get? b = some u → h'.get? b = some u) : HOk P w H h' := fun a o e =>
  (x a o e).stay (fun b u _ q => k b u q) (fun _ q => q) fun _ _ q => q
/-- a new object is laid and tracked -/
theorem HOk.laid (x : HOk P w H h) (k : ∀ b u, h.get? b = some u → h'.get? b = some u) (hp : h.objs.size ≤ a) (new : ObjOk P w (upd H a o) h' a o) : HOk P w (upd H a o) h' := fun b u e => by
  have hn := x.fresh hp
  by_cases hb : b = a
  · subst hb; rw [upd_same] at e; cases e; exact new
  · rw [upd_ne hb] at e
    exact (x b u e).stay (fun c v _ q => k c v q) (fun c q => by rw [upd_ne (ne_of_none q hn)]; exact q) fun c xs q => by rw [upd_ne (ne_of_none q hn)]; exact q
end

/-- what may be read as u: it is u, or a known u -/
def Rd (H : Hp) (a : Addr) (u : HO) : Prop := H a = some u ∨ ∃ o, H a = some (.frz o u)
theorem Rd.of {H : Hp} {a : Addr} {u : HO} (h : H a = some u) : Rd H a u := .inl h
theorem Rd.ok {P : Program} {w : World} {H : Hp} {h : Heap} {a : Addr} {u : HO} (r : Rd H a u) (x : HOk P w H h) : ObjOk P w H h a u := by
  rcases r with r | ⟨o, r⟩
  · exact x a u r
  · obtain ⟨_, q⟩ := x a _ r
    exact q
/-- what may be written -/
def Mut : Option HO → Prop
  | some (.lst _) => True
  | some (.dK _) => True
  | some (.dT _) => True
  | some (.set _ _) => True
  | some (.ins _ _ _) => True
  | some (.ext _) => True
  | _ => False
section
variable {P : Program} {w : World} {H : Hp} {h h' : Heap} {x e : Addr} {o' : HO}
/-- the object at e is changed: x itself, or the dict of the instance x -/
theorem HOk.write (ok : HOk P w H h) (mu : Mut (H x)) (he : e = x ∨ H e = some (.own x)) (k : ∀ b u, b ≠ e → h.get? b = some u → h'.get? b = some u) (heo : ∃ u, h'.get? e = some u)
    (new : ObjOk P w (upd H x o') h' x o') : HOk P w (upd H x o') h' := fun b u q => by
  have nown : ∀ c y, H c = some (.own y) → c ≠ x := fun c y r z => by subst z; rw [r] at mu; exact mu
  have ntup : ∀ c xs, H c = some (.tup xs) → c ≠ x := fun c xs r z => by subst z; rw [r] at mu; exact mu
  by_cases hb : b = x
  · subst hb; rw [upd_same] at q; cases q; exact new
  · rw [upd_ne hb] at q
    by_cases hbe : b = e
    · have q' : H b = some (.own x) := by
        rcases he with z | z
        · exact absurd (hbe.trans z) hb
        · rw [hbe]; exact z
      rw [q] at q'; cases q'
      obtain ⟨v, hv⟩ := heo
      exact ⟨v, by rw [hbe]; exact hv⟩
    · refine (ok b u q).stay (fun c v hc r => k c v ?_ r) (fun c r => by rw [upd_ne (nown c b r)]; exact r) fun c xs r => by rw [upd_ne (ntup c xs r)]; exact r
      rcases hc with rfl | hc
      · exact hbe
      · rintro rfl
        rcases he with z | z
        · exact nown c b hc z
        · rw [hc] at z; cases z; exact hb rfl
end

/-! ### kept unless tracked; of the frames at fs (the callers') the slots may change (an exception that passes writes there); of the records at ex (iterators) nothing is said -/
structure Un (fs ex : List Addr) (H H' : Hp) (h h' : Heap) : Prop where
  keep : ∀ b o, h.get? b = some o → H b = none → b ∉ fs → b ∉ ex → h'.get? b = some o
  slot : ∀ b o, h.get? b = some o → H b = none → b ∈ fs → b ∉ ex → ∃ sl, h'.get? b = some { o with slots := sl }
  free : ∀ b o, h.get? b = some o → H b = none → b ∉ ex → H' b = none
  there : ∀ b o, h.get? b = some o → b ∉ ex → ∃ o', h'.get? b = some o'
  tups : ∀ b xs, H b = some (.tup xs) → H' b = some (.tup xs)
  frzs : ∀ b o u, H b = some (.frz o u) → H' b = some (.frz o u)
  tbls : ∀ b ps, H b = some (.tbl ps) → ∃ more, H' b = some (.tbl (ps ++ more))
section
variable {fs fs' ex ex' : List Addr} {H H1 H2 : Hp} {h h1 h2 h' : Heap} {a x e : Addr} {o : HO}
theorem Un.any (u : Un fs ex H H1 h h1) {b : Addr} {ob : Obj} (q : h.get? b = some ob) (n : H b = none) (hx : b ∉ ex) : ∃ sl, h1.get? b = some { ob with slots := sl } := by
  by_cases hb : b ∈ fs
  · exact u.slot b ob q n hb hx
  · exact ⟨ob.slots, u.keep b ob q n hb hx⟩
theorem Un.trans (a : Un fs ex H H1 h h1) (b : Un fs ex H1 H2 h1 h2) : Un fs ex H H2 h h2 where
  keep := fun c ob q n hc hx => b.keep c ob (a.keep c ob q n hc hx) (a.free c ob q n hx) hc hx
  slot := fun c ob q n hc hx => by
    obtain ⟨sl, e1⟩ := a.slot c ob q n hc hx
    obtain ⟨sl', e2⟩ := b.slot c _ e1 (a.free c ob q n hx) hc hx
    exact ⟨sl', e2⟩
  free := fun c ob q n hx => by
    obtain ⟨o', e1⟩ := a.there c ob q hx
    exact b.free c o' e1 (a.free c ob q n hx) hx
  there := fun c ob q hx => by
    obtain ⟨o', e1⟩ := a.there c ob q hx
    exact b.there c o' e1 hx
  tups := fun c xs q => b.tups c xs (a.tups c xs q)
  frzs := fun c ob xs q => b.frzs c ob xs (a.frzs c ob xs q)
  tbls := fun c ps q => by
    obtain ⟨m1, e1⟩ := a.tbls c ps q
    obtain ⟨m2, e2⟩ := b.tbls c _ e1
    exact ⟨m1 ++ m2, by rw [e2, Array.append_assoc]⟩
theorem Un.kept (k : ∀ b u, h.get? b = some u → h'.get? b = some u) : Un fs ex H H h h' :=
  ⟨fun b ob q _ _ _ => k b ob q, fun b ob q _ _ _ => ⟨ob.slots, k b ob q⟩, fun _ _ _ n _ => n, fun b ob q _ => ⟨ob, k b ob q⟩, fun _ _ q => q, fun _ _ _ q => q, fun _ ps q => ⟨#[], by rw [q]; simp⟩⟩
theorem Un.refl : Un fs ex H H h h := Un.kept fun _ _ q => q
theorem Un.laid (k : ∀ b u, h.get? b = some u → h'.get? b = some u) (hp : h.objs.size ≤ a) (hn : H a = none) : Un fs ex H (upd H a o) h h' where
  keep := fun b u q _ _ _ => k b u q
  slot := fun b u q _ _ _ => ⟨u.slots, k b u q⟩
  free := fun b u q n _ => by rw [upd_ne (Nat.ne_of_lt (Nat.lt_of_lt_of_le (Heap.lt_size q) hp))]; exact n
  there := fun b u q _ => ⟨u, k b u q⟩
  tups := fun b xs q => by rw [upd_ne (ne_of_none q hn)]; exact q
  frzs := fun b u xs q => by rw [upd_ne (ne_of_none q hn)]; exact q
  tbls := fun b ps q => ⟨#[], by rw [upd_ne (ne_of_none q hn), q]; simp⟩
theorem Un.write (mu : Mut (H x)) (he : e = x ∨ H e = some (.own x)) (k : ∀ b u, b ≠ e → h.get? b = some u → h'.get? b = some u) (heo : ∃ u, h'.get? e = some u) : Un fs ex H (upd H x o) h h' := by
  have hx : ∀ b, H b = none → b ≠ x := fun b n z => by subst z; rw [n] at mu; exact mu
  have hb : ∀ b, H b = none → b ≠ e := fun b n z => by
    subst z
    rcases he with r | r
    · exact hx b n r
    · rw [n] at r; cases r
  have hm : ∀ b u, H b = some u → ¬ Mut (some u) → b ≠ x := fun b u q nm z => by subst z; rw [q] at mu; exact nm mu
  refine ⟨fun b u q n _ _ => k b u (hb b n) q, fun b u q n _ _ => ⟨u.slots, k b u (hb b n) q⟩, fun b u q n _ => by rw [upd_ne (hx b n)]; exact n, fun b u q _ => ?_,
    fun b xs q => by rw [upd_ne (hm b _ q fun z => z)]; exact q, fun b u xs q => by rw [upd_ne (hm b _ q fun z => z)]; exact q, fun b ps q => ⟨#[], by rw [upd_ne (hm b _ q fun z => z), q]; simp⟩⟩
  by_cases hbe : b = e
  · subst hbe; exact heo
  · exact ⟨u, k b u hbe q⟩
theorem Un.mono (u : Un fs ex H H1 h h1) (hs : ∀ b ∈ fs, b ∈ fs') (hx : ∀ b ∈ ex, b ∈ ex') : Un fs' ex' H H1 h h1 :=
  ⟨fun b ob q n hb he => u.keep b ob q n (fun z => hb (hs b z)) fun z => he (hx b z), fun _ _ q n _ he => u.any q n fun z => he (hx _ z), fun b ob q n he => u.free b ob q n fun z => he (hx b z), fun b ob q he => u.there b ob q fun z => he (hx b z), u.tups, u.frzs, u.tbls⟩
end

/-! ### the heap without what is tracked -/
def trk (h : Heap) (H : Hp) : List Addr := (List.range h.objs.size).filter fun a => (H a).isSome
def hidT (h : Heap) (H : Hp) : Heap := PySem.W.hideAll h (trk h H)
theorem hidT_size (h : Heap) (H : Hp) : (hidT h H).objs.size = h.objs.size := PySem.W.hideAll_size _ _
theorem hidT_get {h : Heap} {H : Hp} {b : Addr} {o : Obj} (e : h.get? b = some o) (n : H b = none) : (hidT h H).get? b = some o :=
  PySem.W.hideAll_get _ e fun hm => by
    have q : (H b).isSome = true := (List.mem_filter.mp hm).2
    rw [n] at q; simp at q
theorem of_hidT {h : Heap} {H : Hp} {b : Addr} {o : Obj} (e : (hidT h H).get? b = some o) : h.get? b = some o ∧ H b = none := by
  have e' : h.get? b = some o := PySem.W.of_hideAll (trk h H) e
  refine ⟨e', ?_⟩
  cases q : H b with
  | none => rfl
  | some x =>
    have hm : b ∈ trk h H := List.mem_filter.mpr ⟨List.mem_range.mpr (Heap.lt_size e'), by simp [q]⟩
    have z : (hidT h H).get? b = none := PySem.W.hideAll_none (trk h H) hm
    rw [z] at e; cases e

/-! ### OpenK's ledger, filled with every new object but one -/
def allNews (g h : Heap) (L : Addr) : List (Addr × Obj) := (List.range h.objs.size).filterMap fun a => if a = L ∨ (g.get? a).isSome = true then none else (h.get? a).map fun o => (a, o)
theorem mem_allNews {g h : Heap} {L a : Addr} {o : Obj} (h1 : a ≠ L) (h2 : g.get? a = none) (h3 : h.get? a = some o) : (a, o) ∈ allNews g h L :=
  List.mem_filterMap.mpr ⟨a, List.mem_range.mpr (Heap.lt_size h3), by simp [h1, h2, h3]⟩
theorem of_mem_allNews {g h : Heap} {L : Addr} {p : Addr × Obj} (hp : p ∈ allNews g h L) : p.1 ≠ L ∧ g.get? p.1 = none ∧ h.get? p.1 = some p.2 := by
  obtain ⟨b, _, e⟩ := List.mem_filterMap.mp hp
  split at e
  · cases e
  · rename_i hn
    cases q : h.get? b with
    | none => rw [q] at e; simp at e
    | some u =>
      rw [q] at e
      simp only [Option.map_some, Option.some.injEq] at e
      subst e
      refine ⟨fun z => hn (.inl z), ?_, q⟩
      show g.get? b = none
      cases r : g.get? b with
      | none => rfl
      | some v => exact (hn (.inr (by simp [r]))).elim
def rest (g h : Heap) (L d : Addr) : List (Addr × Obj) := (allNews g h L).filter fun p => decide (p.1 ≠ d)
theorem rest_ne {g h : Heap} {L d : Addr} : ∀ p ∈ rest g h L d, p.1 ≠ d := fun p hp => of_decide_eq_true (List.mem_filter.mp hp).2
theorem mem_rest {g h : Heap} {L d a : Addr} {o : Obj} (h1 : a ≠ L) (h2 : g.get? a = none) (h3 : h.get? a = some o) (h4 : a ≠ d) : (a, o) ∈ rest g h L d :=
  List.mem_filter.mpr ⟨mem_allNews h1 h2 h3, decide_eq_true h4⟩
theorem news_all {g h : Heap} {L : Addr} : News g L h (allNews g h L) := fun p hp => let ⟨a, b, c⟩ := of_mem_allNews hp; ⟨c, a, b⟩
theorem news_at {g h : Heap} {L d : Addr} {o : Obj} (h1 : d ≠ L) (h2 : g.get? d = none) (h3 : h.get? d = some o) : News g L h ((d, o) :: rest g h L d) := fun p hp => by
  rcases List.mem_cons.mp hp with rfl | hp
  · exact ⟨h3, h1, h2⟩
  · exact news_all p (List.mem_filter.mp hp).1
/-- behind a rule that changed d alone: all else but the frame is kept -/
theorem kept_of_news {g h h' : Heap} {L d : Addr} {m : Str → Option Value} (k : ∀ b o, g.get? b = some o → h.get? b = some o) (F : Fr g L h' m) (N : News g L h' (rest g h L d)) :
    ∀ b o, b ≠ L → b ≠ d → h.get? b = some o → h'.get? b = some o := fun b o h1 h2 e => by
  cases q : g.get? b with
  | some u =>
    have := k b u q
    rw [e] at this; cases this
    exact F.keep b _ q
  | none => exact (N (b, o) (mem_rest h1 q e h2)).1
end L2

namespace L2
open PySem PySem.Spec PyProof.Rows

/-- the module's facts, over the base: the heap at the law's entry without what is tracked there -/
structure Mod (K : PySem.W.Frag) (mg : Str → Option Value) (base : Heap) : Prop where
  kin : K.In base
  glob : base.Ns mainGlobals mg
  blt : ∃ mb, base.Ns builtinsNs mb ∧ ∀ x : Str, x ≠ "__name__" → mb x = bootBuiltins x
  nolimit : base.NoLimit

/-- the context: a def's body (or a comprehension's block) running. base: fixed through the whole law; s₀, H₀: the entry; outer: the frames whose slots others may change (a def's callers); stack: all frames that run;
   ex: iterators that were made ahead of the entry and are walked here (a comprehension's); fn: the names whose cells were made at the entry (a def: all; a comprehension's block: its own); calm: not within an except suite; pn: pins that every state bears; xe: what is wanted of an exception that leaves the code -/
structure Cx where
  prog : Program
  w : World
  K : PySem.W.Frag
  mg : Str → Option Value
  base : Heap
  A : Around
  N : List Str
  s₀ : Shared
  H₀ : Hp
  env : Env
  outer : List Env
  stack : List Env
  ex : List Addr
  fn : Str → Bool
  calm : Bool
  pn : List (Addr × Obj)
  xe : Value → Shared → Prop
/-- the callers' frames -/
def frs (l : List Env) : List Addr := l.filterMap (·.frame)
abbrev Cx.fs (X : Cx) : List Addr := frs X.outer

def Vis (sc : Scope) (x : Str) : Prop := sc.names.lookup x = some .local ∨ sc.names.lookup x = some .cell ∨ sc.names.lookup x = some .free
def Loc (sc : Scope) (x : Str) : Prop := sc.names.lookup x = some .local ∨ sc.names.lookup x = some .cell
def Look (env : Env) (h : Heap) (m : Str → Option Value) (x : Str) (u : Value) : Prop :=
  (env.kindOf x = some .local ∧ m x = some u) ∨ ((env.kindOf x = some .cell ∨ env.kindOf x = some .free) ∧ ∃ c, env.cells.lookup x = some c ∧ h.IsCell c (some u))

structure Cx.Ok (X : Cx) : Prop where
  mod : Mod X.K X.mg X.base
  kind : X.env.scope.kind = .function
  glob : X.env.globals = mainGlobals
  blt : X.env.builtins = builtinsNs
  above : X.s₀.heap.objs.size ≤ X.env.locals
  inj : ∀ x y c, X.env.cells.lookup x = some c → X.env.cells.lookup y = some c → x = y
  has : ∀ x, (X.env.kindOf x = some .cell ∨ X.env.kindOf x = some .free) → ∃ c, X.env.cells.lookup x = some c
  cab : ∀ x c, X.fn x = true → X.env.cells.lookup x = some c → X.s₀.heap.objs.size ≤ c
  hd : X.calm = true → X.A.handled = none
  frames : X.A.frames = some X.stack
  stk : X.stack = X.outer ∨ (X.stack = X.env :: X.outer ∧ X.env.frame = some X.env.locals)
  exf : ∀ b ∈ X.ex, b ≠ X.env.locals ∧ ∀ x c, X.env.cells.lookup x = some c → c ≠ b
  bs : ∀ b o, X.base.get? b = some o → X.s₀.heap.get? b = some o ∧ X.H₀ b = none
  bsz : X.base.objs.size ≤ X.s₀.heap.objs.size
  noex : ∀ b o, X.base.get? b = some o → b ∉ X.ex
  exfs : ∀ b ∈ X.ex, b ∉ X.fs
  funs : X.s₀.heap.FunFrames X.base X.outer
  frf : ∀ b ∈ X.fs, X.H₀ b = none

structure Inv (X : Cx) (pins : List (Addr × Obj)) (σ : List (Option V)) (H : Hp) (s : Shared) : Prop where
  ok : X.Ok
  os : s.os = X.s₀.os
  bare : AllBare s.gens
  base : Un X.fs X.ex X.H₀ H X.s₀.heap s.heap
  loc : ∃ m, s.heap.Ns X.env.locals m ∧ ∀ (i : Nat) (x : Str) (v : V), X.N[i]? = some x → σ[i]? = some (some v) → Vis X.env.scope x → ∃ u, RelV v u ∧ Look X.env s.heap m x u
  cell : ∀ x c, X.env.cells.lookup x = some c → ∃ v, s.heap.IsCell c v
  free : H X.env.locals = none
  freeC : ∀ x c, X.env.cells.lookup x = some c → H c = none
  pin : ∀ p ∈ X.pn ++ pins, s.heap.get? p.1 = some p.2 ∧ H p.1 = none ∧ p.1 ≠ X.env.locals ∧ p.1 ∉ X.fs ∧ ∀ v, p.2.data ≠ .cell v
  hok : HOk X.prog X.w H s.heap
  len : σ.length = X.N.length

section
variable {X : Cx} {pins : List (Addr × Obj)} {σ : List (Option V)} {H H' : Hp} {s : Shared} {h' : Heap}

theorem Cx.Ok.nofr (ok : X.Ok) {b : Addr} {o : Obj} (e : X.base.get? b = some o) : b ∉ X.fs := fun hb => by
  have := (ok.funs.mem hb).1
  rw [e] at this; cases this
theorem Inv.bs (I : Inv X pins σ H s) : ∀ b o, X.base.get? b = some o → s.heap.get? b = some o ∧ H b = none := fun b o e =>
  ⟨I.base.keep b o (I.ok.bs b o e).1 (I.ok.bs b o e).2 (I.ok.nofr e) (I.ok.noex b o e), I.base.free b o (I.ok.bs b o e).1 (I.ok.bs b o e).2 (I.ok.noex b o e)⟩
theorem Inv.bk (I : Inv X pins σ H s) : ∀ b o, X.base.get? b = some o → s.heap.get? b = some o := fun b o e => (I.bs b o e).1
theorem Inv.mod (I : Inv X pins σ H s) : Mod X.K X.mg X.base := I.ok.mod
theorem Inv.kIn (I : Inv X pins σ H s) : X.K.In s.heap := I.ok.mod.kin.keeps I.bk
theorem Inv.nolimit (I : Inv X pins σ H s) : s.heap.NoLimit := I.ok.mod.nolimit.keeps I.bk
/-- the frame over the base: for OpenK's rules (K.In X.base is I.mod.kin) -/
theorem Inv.fr (I : Inv X pins σ H s) : ∃ m, Fr X.base X.env.locals s.heap m :=
  let ⟨m, hn, _⟩ := I.loc
  ⟨m, hn, I.bk, Nat.le_trans I.ok.bsz I.ok.above⟩
theorem Inv.lt (I : Inv X pins σ H s) : X.env.locals < s.heap.objs.size := let ⟨_, hn, _⟩ := I.loc; hn.lt
theorem Inv.sz (I : Inv X pins σ H s) : X.s₀.heap.objs.size ≤ s.heap.objs.size := Nat.le_trans I.ok.above (Nat.le_of_lt I.lt)
theorem Inv.nofs (I : Inv X pins σ H s) {a : Addr} (h : s.heap.objs.size ≤ a) : a ∉ X.fs := fun hb => by
  obtain ⟨_, o, ho, _⟩ := I.ok.funs.mem hb
  exact absurd (Nat.lt_of_lt_of_le (Heap.lt_size ho) (Nat.le_trans I.sz h)) (Nat.lt_irrefl _)
theorem Inv.cne (I : Inv X pins σ H s) : ∀ x c, X.env.cells.lookup x = some c → c ≠ X.env.locals := fun x c e z => by
  obtain ⟨v, o, ho, hd⟩ := I.cell x c e
  obtain ⟨m, ⟨o', es, ep, ho', hd', _⟩, _⟩ := I.loc
  rw [z, ho'] at ho; cases ho; rw [hd'] at hd; cases hd
theorem Inv.funs (I : Inv X pins σ H s) : s.heap.FunFrames X.base X.outer := by
  have all : ∀ (l : List Env), (∀ b ∈ frs l, b ∈ X.fs) → X.s₀.heap.FunFrames X.base l → s.heap.FunFrames X.base l := by
    intro l
    induction l with
    | nil => intro _ _; trivial
    | cons env r ih =>
      intro hs hl
      obtain ⟨hk, ⟨L, o, hf, hn, ho, hd⟩, hr⟩ := hl
      have hL : L ∈ X.fs := hs L (by unfold frs; rw [List.filterMap_cons, hf]; exact List.mem_cons_self)
      obtain ⟨sl, e⟩ := I.base.slot L o ho (I.ok.frf L hL) hL fun z => I.ok.exfs L z hL
      exact ⟨hk, ⟨L, _, hf, hn, e, hd⟩, ih (fun b hb => hs b (by unfold frs; rw [List.filterMap_cons, hf]; exact List.mem_cons_of_mem _ hb)) hr⟩
  exact all X.outer (fun _ hb => hb) I.ok.funs

/-- the frames that run, for a call -/
theorem Inv.stack (I : Inv X pins σ H s) : s.heap.FunFrames X.base X.stack := by
  rcases I.ok.stk with e | ⟨e, hf⟩
  · rw [e]; exact I.funs
  · rw [e]
    obtain ⟨m, hn, _⟩ := I.loc
    refine .cons (by rw [I.ok.kind]; decide) hf hn ?_ I.funs
    exact Heap.get?_none_of_le (Nat.le_trans I.ok.bsz I.ok.above)
theorem Inv.stkSub (I : Inv X pins σ H s) : ∀ b ∈ frs X.stack, b ∈ X.env.locals :: X.fs := fun b hb => by
  rcases I.ok.stk with e | ⟨e, hf⟩
  · rw [e] at hb; exact List.mem_cons_of_mem _ hb
  · rw [e] at hb
    unfold frs at hb
    rw [List.filterMap_cons, hf] at hb
    exact hb
theorem Inv.stkFree (I : Inv X pins σ H s) : ∀ b ∈ frs X.stack, H b = none := fun b hb => by
  rcases List.mem_cons.mp (I.stkSub b hb) with e | hb
  · rw [e]; exact I.free
  · obtain ⟨_, o, ho, _⟩ := I.ok.funs.mem hb
    exact I.base.free b o ho (I.ok.frf b hb) fun z => I.ok.exfs b z hb

/-- THE STEP: the untracked objects but the frame and the records at ch are kept (the callers' frames up to slots), the frame's map is kept, the new abstract heap is held -/
theorem Inv.step {g' : Array GenState} {t' : Nat} {d' : Drawn} {ch : List Addr} (I : Inv X pins σ H s)
    (hch : ∀ b ∈ ch, (b ∈ X.ex ∨ X.s₀.heap.objs.size ≤ b) ∧ b ≠ X.env.locals ∧ (∀ x c, X.env.cells.lookup x = some c → c ≠ b) ∧ ∀ p ∈ X.pn ++ pins, p.1 ≠ b)
    (keep : ∀ b o, b ≠ X.env.locals → b ∉ X.fs → b ∉ ch → s.heap.get? b = some o → H b = none → h'.get? b = some o)
    (slot : ∀ b o, b ≠ X.env.locals → b ∈ X.fs → b ∉ ch → s.heap.get? b = some o → H b = none → ∃ sl, h'.get? b = some { o with slots := sl }) (free : ∀ b o, b ∉ ch → s.heap.get? b = some o → H b = none → H' b = none)
    (there : ∀ b o, b ∉ ch → s.heap.get? b = some o → ∃ o', h'.get? b = some o')
    (tups : ∀ b xs, H b = some (.tup xs) → H' b = some (.tup xs)) (frzs : ∀ b o u, H b = some (.frz o u) → H' b = some (.frz o u)) (tbls : ∀ b ps, H b = some (.tbl ps) → ∃ more, H' b = some (.tbl (ps ++ more)))
    (ns : ∀ m, s.heap.Ns X.env.locals m → h'.Ns X.env.locals m) (hok : HOk X.prog X.w H' h') (hg : AllBare g') :
    Inv X pins σ H' { s with heap := h', gens := g', drawn := d', toks := t' } := by
  have neL : ∀ b o, X.s₀.heap.get? b = some o → b ≠ X.env.locals := fun b o e => Nat.ne_of_lt (Nat.lt_of_lt_of_le (Heap.lt_size e) I.ok.above)
  have neC : ∀ b o, X.s₀.heap.get? b = some o → b ∉ X.ex → b ∉ ch := fun b o e hx hb => by
    rcases (hch b hb).1 with z | z
    · exact hx z
    · exact absurd (Nat.lt_of_lt_of_le (Heap.lt_size e) z) (Nat.lt_irrefl _)
  have cellK : ∀ x c, X.env.cells.lookup x = some c → ∀ v, s.heap.IsCell c v → h'.IsCell c v := fun x c e v ⟨o, ho, hd⟩ => by
    have nch : c ∉ ch := fun z => (hch c z).2.2.1 x c e rfl
    by_cases hc : c ∈ X.fs
    · obtain ⟨sl, q⟩ := slot c o (I.cne x c e) hc nch ho (I.freeC x c e)
      exact ⟨_, q, hd⟩
    · exact ⟨o, keep c o (I.cne x c e) hc nch ho (I.freeC x c e), hd⟩
  refine ⟨I.ok, I.os, hg, ⟨fun b o e n hb hx => ?_, fun b o e n hb hx => ?_, fun b o e n hx => ?_, fun b o e hx => ?_, fun b xs e => tups b xs (I.base.tups b xs e), fun b o xs e => frzs b o xs (I.base.frzs b o xs e), fun b ps e => ?_⟩, ?_, fun x c e => ?_, ?_, fun x c e => ?_, fun p hp => ?_, hok, I.len⟩
  · exact keep b o (neL b o e) hb (neC b o e hx) (I.base.keep b o e n hb hx) (I.base.free b o e n hx)
  · obtain ⟨sl, e1⟩ := I.base.slot b o e n hb hx
    obtain ⟨sl', e2⟩ := slot b _ (neL b o e) hb (neC b o e hx) e1 (I.base.free b o e n hx)
    exact ⟨sl', e2⟩
  · obtain ⟨o', e1⟩ := I.base.there b o e hx
    exact free b o' (neC b o e hx) e1 (I.base.free b o e n hx)
  · obtain ⟨o', e1⟩ := I.base.there b o e hx
    exact there b o' (neC b o e hx) e1
  · obtain ⟨m1, e1⟩ := I.base.tbls b ps e
    obtain ⟨m2, e2⟩ := tbls b _ e1
    exact ⟨m1 ++ m2, by rw [e2, Array.append_assoc]⟩
  · obtain ⟨m, hn, hl⟩ := I.loc
    refine ⟨m, ns m hn, fun i x v e1 e2 e3 => ?_⟩
    obtain ⟨u, r, l⟩ := hl i x v e1 e2 e3
    refine ⟨u, r, ?_⟩
    rcases l with l | ⟨k, c, e, z⟩
    · exact .inl l
    · exact .inr ⟨k, c, e, cellK x c e _ z⟩
  · obtain ⟨v, z⟩ := I.cell x c e
    exact ⟨v, cellK x c e v z⟩
  · obtain ⟨m, ⟨o, _, _, ho, _⟩, _⟩ := I.loc
    exact free _ o (fun z => (hch _ z).2.1 rfl) ho I.free
  · obtain ⟨v, o, ho, hd⟩ := I.cell x c e
    exact free c o (fun z => (hch c z).2.2.1 x c e rfl) ho (I.freeC x c e)
  · obtain ⟨e, n, ne, nf, d⟩ := I.pin p hp
    have nch : p.1 ∉ ch := fun z => (hch p.1 z).2.2.2 p hp rfl
    exact ⟨keep p.1 p.2 ne nf nch e n, free p.1 p.2 nch e n, ne, nf, d⟩
/-- .. where the frame's own object is kept too -/
theorem Inv.un {t' : Nat} (I : Inv X pins σ H s) (u : Un X.fs [] H H' s.heap h') (hok : HOk X.prog X.w H' h') : Inv X pins σ H' { s with heap := h', toks := t' } := by
  obtain ⟨m, ⟨o, es, ep, ho, r⟩, _⟩ := id I.loc
  obtain ⟨sl, hL⟩ := u.any ho I.free (by simp)
  exact I.step (g' := s.gens) (d' := s.drawn) (ch := []) (fun _ z => nomatch z) (fun b o _ hb _ e n => u.keep b o e n hb (by simp)) (fun b o _ hb _ e n => u.slot b o e n hb (by simp)) (fun b o _ e n => u.free b o e n (by simp)) (fun b o _ e => u.there b o e (by simp)) u.tups u.frzs u.tbls (fun m' hm => by
    obtain ⟨o', es', ep', ho', r'⟩ := hm
    rw [ho] at ho'; cases ho'
    exact ⟨_, es', ep', hL, r'⟩) hok I.bare
/-- behind a call (or a comprehension's block): the slots of this frame may have changed too, the records at ch may have turned -/
theorem Inv.call {g' : Array GenState} {t' : Nat} {d' : Drawn} {ch : List Addr} (I : Inv X pins σ H s) (u : Un (frs X.stack) ch H H' s.heap h') (hok : HOk X.prog X.w H' h') (hg : AllBare g')
    (hch : ∀ b ∈ ch, (b ∈ X.ex ∨ X.s₀.heap.objs.size ≤ b) ∧ b ≠ X.env.locals ∧ (∀ x c, X.env.cells.lookup x = some c → c ≠ b) ∧ ∀ p ∈ X.pn ++ pins, p.1 ≠ b) :
    Inv X pins σ H' { s with heap := h', gens := g', drawn := d', toks := t' } := by
  obtain ⟨m, ⟨o, es, ep, ho, r⟩, _⟩ := id I.loc
  obtain ⟨sl, hL⟩ := u.any ho I.free fun z => (hch _ z).2.1 rfl
  exact I.step (ch := ch) hch (fun b o hL hb hc e n => u.keep b o e n (fun z => (List.mem_cons.mp (I.stkSub b z)).elim hL hb) hc) (fun b o _ _ hc e n => u.any e n hc) (fun b o hc e n => u.free b o e n hc) (fun b o hc e => u.there b o e hc) u.tups u.frzs u.tbls (fun m' hm => by
    obtain ⟨o', es', ep', ho', r'⟩ := hm
    rw [ho] at ho'; cases ho'
    exact ⟨_, es', ep', hL, r'⟩) hok hg
/-- an untracked record of ours (an iterator) has turned -/
theorem Inv.turned {t' : Nat} {it : Addr} (I : Inv X pins σ H s) (k : ∀ b o, b ≠ it → s.heap.get? b = some o → h'.get? b = some o) (hn : H it = none) (hL : it ≠ X.env.locals)
    (h1 : it ∈ X.ex ∨ X.s₀.heap.objs.size ≤ it) (h2 : ∀ x c, X.env.cells.lookup x = some c → c ≠ it) (h3 : ∀ p ∈ X.pn ++ pins, p.1 ≠ it) : Inv X pins σ H { s with heap := h', toks := t' } := by
  have nit : ∀ b u, H b = some u → b ≠ it := fun b u e z => by rw [z, hn] at e; cases e
  refine I.step (g' := s.gens) (d' := s.drawn) (ch := [it]) (fun b hb => ?_) (fun b o _ _ hc e _ => k b o (fun z => hc (by simp [z])) e) (fun b o _ _ hc e _ => ⟨o.slots, k b o (fun z => hc (by simp [z])) e⟩) (fun _ _ _ _ n => n)
    (fun b o hc e => ⟨o, k b o (fun z => hc (by simp [z])) e⟩) (fun _ _ e => e) (fun _ _ _ e => e) (fun b ps e => ⟨#[], by rw [e]; simp⟩) (fun m hm => ?_) (fun b u e => ?_) I.bare
  · have e : b = it := by simpa using hb
    subst e
    exact ⟨h1, hL, h2, h3⟩
  · obtain ⟨o, es, ep, ho, r⟩ := hm
    exact ⟨o, es, ep, k _ o (Ne.symm hL) ho, r⟩
  · refine (I.hok b u e).stay (fun c v hc q => k c v ?_ q) (fun _ q => q) fun _ _ q => q
    rcases hc with z | z
    · rw [z]; exact nit b u e
    · exact nit c _ z
theorem Inv.tok (I : Inv X pins σ H s) (t : Nat) : Inv X pins σ H { s with toks := t } := I.un (h' := s.heap) (t' := t) Un.refl I.hok
/-- all objects kept -/
theorem Inv.kept {t' : Nat} (I : Inv X pins σ H s) (k : ∀ b u, s.heap.get? b = some u → h'.get? b = some u) : Inv X pins σ H { s with heap := h', toks := t' } := I.un (Un.kept k) (I.hok.kept k)
/-- a new object laid and tracked -/
theorem Inv.laid {a : Addr} {o : HO} {t' : Nat} (I : Inv X pins σ H s) (k : ∀ b u, s.heap.get? b = some u → h'.get? b = some u) (hp : s.heap.objs.size ≤ a) (new : ObjOk X.prog X.w (upd H a o) h' a o) :
    Inv X pins σ (upd H a o) { s with heap := h', toks := t' } := I.un (Un.laid k hp (I.hok.fresh hp)) (I.hok.laid k hp new)
/-- an object written -/
theorem Inv.write {x e : Addr} {o : HO} {t' : Nat} (I : Inv X pins σ H s) (mu : Mut (H x)) (he : e = x ∨ H e = some (.own x)) (k : ∀ b u, b ≠ e → s.heap.get? b = some u → h'.get? b = some u) (heo : ∃ u, h'.get? e = some u)
    (new : ObjOk X.prog X.w (upd H x o) h' x o) : Inv X pins σ (upd H x o) { s with heap := h', toks := t' } := I.un (Un.write mu he k heo) (I.hok.write mu he k heo new)
/-- forgetting slots, pins -/
theorem Inv.weak {σ' : List (Option V)} (I : Inv X pins σ H s) (hl : σ'.length = σ.length) (w : ∀ (i : Nat) v, σ'[i]? = some (some v) → σ[i]? = some (some v)) : Inv X pins σ' H s :=
  ⟨I.ok, I.os, I.bare, I.base, let ⟨m, hn, hl'⟩ := I.loc; ⟨m, hn, fun i x v e1 e2 e3 => hl' i x v e1 (w i v e2) e3⟩, I.cell, I.free, I.freeC, I.pin, I.hok, hl.trans I.len⟩
theorem Inv.pins_of {pins' : List (Addr × Obj)} (I : Inv X pins σ H s) (h : ∀ p ∈ pins', s.heap.get? p.1 = some p.2 ∧ H p.1 = none ∧ p.1 ≠ X.env.locals ∧ p.1 ∉ X.fs ∧ ∀ v, p.2.data ≠ .cell v) : Inv X pins' σ H s :=
  ⟨I.ok, I.os, I.bare, I.base, I.loc, I.cell, I.free, I.freeC, fun p hp => (List.mem_append.mp hp).elim (fun z => I.pin p (List.mem_append_left _ z)) (h p), I.hok, I.len⟩

theorem nodup_ix {N : List Str} (hN : N.Nodup) {i j : Nat} {x : Str} (a : N[i]? = some x) (b : N[j]? = some x) : i = j := by
  obtain ⟨h1, e1⟩ := List.getElem?_eq_some_iff.mp a
  obtain ⟨h2, e2⟩ := List.getElem?_eq_some_iff.mp b
  exact (List.getElem_inj hN).mp (e1.trans e2.symm)

/-- a name is stored; what changed -/
theorem store_ok2 {M : Model} {A : Around} {E : Value → Shared → Prop} {i : Nat} {x : Str} {v : V} {u : Value} {Q : Unit → Shared → Prop} (I : Inv X pins σ H s) (hN : X.N.Nodup) (hi : X.N[i]? = some x) (hx : Loc X.env.scope x) (r : RelV v u)
    (h : ∀ s', Inv X pins (σ.set i (some v)) H s' → (∃ a, Heap.SameBut a s.heap s'.heap ∧ (a = X.env.locals ∨ X.env.cells.lookup x = some a)) → Q () s') (hf : X.fn x = true ∨ X.env.scope.names.lookup x = some .local := by first | exact .inl rfl | exact .inr rfl | assumption) : wpAny M A (storeName X.env x u) Q E s := by
  obtain ⟨m, hn, hl⟩ := id I.loc
  have hcls : (X.env.scope.kind == .class || (X.env.scope.kind == .module && X.env.locals != X.env.globals)) = false := by rw [I.ok.kind]; rfl
  have hiσ : i < σ.length := by rw [I.len]; exact (List.getElem?_eq_some_iff.mp hi).1
  have cne := I.cne
  have tracked : ∀ {a : Addr} {h' : Heap}, (∃ o, s.heap.get? a = some o ∧ H a = none) → Heap.SameBut a s.heap h' → HOk X.prog X.w H h' := fun {a h'} ha hs b ob e => by
    obtain ⟨_, _, hfree⟩ := ha
    refine (I.hok b ob e).stay (fun c w' hc q => (hs.2 c ?_).trans q) (fun _ q => q) fun _ _ q => q
    rintro rfl
    rcases hc with rfl | hc
    · rw [hfree] at e; cases e
    · rw [hfree] at hc; cases hc
  rcases hx with hk | hk
  · refine wpAny_storeName_local hk hn (fun h' hn' hs => ?_) hcls
    obtain ⟨oL, _, _, hoL, _⟩ := id hn
    refine h _ ⟨I.ok, I.os, I.bare, ⟨fun b o e n hb hx => ?_, fun b o e n hb hx => ?_, I.base.free, fun b o e hx => ?_, I.base.tups, I.base.frzs, I.base.tbls⟩, ⟨_, hn', fun j y v' e1 e2 e3 => ?_⟩, fun y c e => ?_, I.free, I.freeC, fun p hp => ?_, tracked ⟨oL, hoL, I.free⟩ hs, by simpa using I.len⟩ ⟨_, hs, .inl rfl⟩
    · exact (hs.2 b (Nat.ne_of_lt (Nat.lt_of_lt_of_le (Heap.lt_size e) I.ok.above))).trans (I.base.keep b o e n hb hx)
    · obtain ⟨sl, e1⟩ := I.base.slot b o e n hb hx
      exact ⟨sl, (hs.2 b (Nat.ne_of_lt (Nat.lt_of_lt_of_le (Heap.lt_size e) I.ok.above))).trans e1⟩
    · obtain ⟨o', e1⟩ := I.base.there b o e hx
      exact ⟨o', (hs.2 b (Nat.ne_of_lt (Nat.lt_of_lt_of_le (Heap.lt_size e) I.ok.above))).trans e1⟩
    · by_cases hj : j = i
      · subst hj
        rw [hi] at e1; cases e1
        rw [List.getElem?_set_self hiσ] at e2
        cases e2
        exact ⟨u, r, .inl ⟨hk, by simp⟩⟩
      · rw [List.getElem?_set_ne (Ne.symm hj)] at e2
        obtain ⟨u', r', q⟩ := hl j y v' e1 e2 e3
        refine ⟨u', r', ?_⟩
        rcases q with ⟨k, e⟩ | ⟨k, c, e, z⟩
        · refine .inl ⟨k, ?_⟩
          have : y ≠ x := fun e => hj (nodup_ix hN e1 (e ▸ hi))
          simp [this, e]
        · exact .inr ⟨k, c, e, z.sameBut hs (cne y c e)⟩
    · obtain ⟨w', z⟩ := I.cell y c e
      exact ⟨w', z.sameBut hs (cne y c e)⟩
    · obtain ⟨e, n, ne, nf, d⟩ := I.pin p hp
      exact ⟨(hs.2 p.1 ne).trans e, n, ne, nf, d⟩
  · have hfn : X.fn x = true := by
      rcases hf with z | z
      · exact z
      · rw [z] at hk; cases hk
    obtain ⟨c, hc⟩ := I.ok.has x (.inl hk)
    obtain ⟨w', z⟩ := I.cell x c hc
    refine wpAny_storeName_cell I.ok.kind hk hc z (fun h' hc' hs => ?_)
    obtain ⟨oc, hoc, hocd⟩ := id z
    refine h { s with heap := h' } ⟨I.ok, I.os, I.bare, ⟨fun b o e n hb hx => ?_, fun b o e n hb hx => ?_, I.base.free, fun b o e hx => ?_, I.base.tups, I.base.frzs, I.base.tbls⟩, ⟨m, hn.sameBut hs (Ne.symm (cne x c hc)), fun j y v' e1 e2 e3 => ?_⟩, fun y c' e => ?_, I.free, I.freeC, fun p hp => ?_, tracked ⟨oc, hoc, I.freeC x c hc⟩ hs, by simpa using I.len⟩ ⟨c, hs, .inr hc⟩
    · exact (hs.2 b (Nat.ne_of_lt (Nat.lt_of_lt_of_le (Heap.lt_size e) (I.ok.cab x c hfn hc)))).trans (I.base.keep b o e n hb hx)
    · obtain ⟨sl, e1⟩ := I.base.slot b o e n hb hx
      exact ⟨sl, (hs.2 b (Nat.ne_of_lt (Nat.lt_of_lt_of_le (Heap.lt_size e) (I.ok.cab x c hfn hc)))).trans e1⟩
    · obtain ⟨o', e1⟩ := I.base.there b o e hx
      exact ⟨o', (hs.2 b (Nat.ne_of_lt (Nat.lt_of_lt_of_le (Heap.lt_size e) (I.ok.cab x c hfn hc)))).trans e1⟩
    · by_cases hj : j = i
      · subst hj
        rw [hi] at e1; cases e1
        rw [List.getElem?_set_self hiσ] at e2
        cases e2
        exact ⟨u, r, .inr ⟨.inl hk, c, hc, hc'⟩⟩
      · rw [List.getElem?_set_ne (Ne.symm hj)] at e2
        obtain ⟨u', r', q⟩ := hl j y v' e1 e2 e3
        refine ⟨u', r', ?_⟩
        rcases q with q | ⟨k, c', e, z'⟩
        · exact .inl q
        · refine .inr ⟨k, c', e, z'.sameBut hs ?_⟩
          rintro rfl
          exact hj (nodup_ix hN e1 (I.ok.inj _ _ _ e hc ▸ hi))
    · by_cases hcc : c' = c
      · subst hcc; exact ⟨_, hc'⟩
      · obtain ⟨w2, z2⟩ := I.cell y c' e
        exact ⟨w2, z2.sameBut hs hcc⟩
    · obtain ⟨e, n, ne, nf, d⟩ := I.pin p hp
      refine ⟨(hs.2 p.1 ?_).trans e, n, ne, nf, d⟩
      intro q
      rw [q, hoc] at e
      have q' : oc = p.2 := Option.some.inj e
      exact d w' (by rw [← q']; exact hocd)
theorem store_ok {M : Model} {A : Around} {E : Value → Shared → Prop} {i : Nat} {x : Str} {v : V} {u : Value} {Q : Unit → Shared → Prop} (I : Inv X pins σ H s) (hN : X.N.Nodup) (hi : X.N[i]? = some x) (hx : Loc X.env.scope x) (r : RelV v u)
    (h : ∀ s', Inv X pins (σ.set i (some v)) H s' → Q () s') (hf : X.fn x = true ∨ X.env.scope.names.lookup x = some .local := by first | exact .inl rfl | exact .inr rfl | assumption) : wpAny M A (storeName X.env x u) Q E s :=
  store_ok2 I hN hi hx r (fun s' I' _ => h s' I') hf
/-- behind a call or a block, the state as it is -/
theorem Inv.call' {s' : Shared} {ch : List Addr} (I : Inv X pins σ H s) (ho : s'.os = s.os) (u : Un (frs X.stack) ch H H' s.heap s'.heap) (hok : HOk X.prog X.w H' s'.heap) (hg : AllBare s'.gens)
    (hch : ∀ b ∈ ch, (b ∈ X.ex ∨ X.s₀.heap.objs.size ≤ b) ∧ b ≠ X.env.locals ∧ (∀ x c, X.env.cells.lookup x = some c → c ≠ b) ∧ ∀ p ∈ X.pn ++ pins, p.1 ≠ b) : Inv X pins σ H' s' := by
  obtain ⟨h', g', d', t', o'⟩ := s'
  have e : o' = s.os := ho
  subst e
  exact I.call (g' := g') (t' := t') (d' := d') u hok hg hch
end

/-! ### the judgements -/
/-- an exception: its class, its own dict's address (where it has one), the abstract heap behind it -/
abbrev XK := Value → Option Addr → Hp → Prop
abbrev St := List (Option V)
abbrev VK := V → Hp → Prop
/-- an expression's reading; a test's; an argument list's -/
abbrev TE := St → Hp → VK → Prop
abbrev TT := St → Hp → (Bool → Hp → Prop) → Prop
abbrev TA := St → Hp → (List V → Hp → Prop) → Prop
/-- what is wanted behind a statement -/
structure Ends where
  nx : St → Hp → Prop
  rt : VK
  bk : St → Hp → Prop := fun _ _ => False
  ct : St → Hp → Prop := fun _ _ => False
abbrev TS := Ends → St → Hp → Prop

def EP (X : Cx) (pins : List (Addr × Obj)) (σ : St) (Q : VK) (u : Value) (s' : Shared) : Prop := ∃ v H', Inv X pins σ H' s' ∧ RelV v u ∧ Q v H'
def TP (X : Cx) (pins : List (Addr × Obj)) (σ : St) (Q : Bool → Hp → Prop) (b : Bool) (s' : Shared) : Prop := ∃ H', Inv X pins σ H' s' ∧ Q b H'
def AP (X : Cx) (pins : List (Addr × Obj)) (σ : St) (Q : List V → Hp → Prop) (us : List Value) (s' : Shared) : Prop := ∃ vs H', Inv X pins σ H' s' ∧ Vals vs us ∧ Q vs H'
def SP (X : Cx) (pins : List (Addr × Obj)) (D : Ends) (f : Flow) (s' : Shared) : Prop :=
  match f with
  | .next => ∃ σ' H', Inv X pins σ' H' s' ∧ D.nx σ' H'
  | .brk => ∃ σ' H', Inv X pins σ' H' s' ∧ D.bk σ' H'
  | .cont => ∃ σ' H', Inv X pins σ' H' s' ∧ D.ct σ' H'
  | .ret u => ∃ v σ' H', Inv X pins σ' H' s' ∧ RelV v u ∧ D.rt v H'

def PE (X : Cx) (e : Expr) (t : TE) : Prop :=
  ∀ (pins : List (Addr × Obj)) (s : Shared) (σ : St) (H : Hp) (Q : VK), Inv X pins σ H s → t σ H Q → wpAny (model X.prog X.w) X.A (eval e X.env) (EP X pins σ Q) X.xe s
def PT (X : Cx) (e : Expr) (t : TT) : Prop :=
  ∀ (pins : List (Addr × Obj)) (s : Shared) (σ : St) (H : Hp) (Q : Bool → Hp → Prop), Inv X pins σ H s → t σ H Q → wpAny (model X.prog X.w) X.A (isTrue e X.env (eval e X.env)) (TP X pins σ Q) X.xe s
/-- a test whatever its 'whole' is (and, or) -/
def PW (X : Cx) (e : Expr) (t : TT) : Prop :=
  ∀ (whole : Sem Value) (pins : List (Addr × Obj)) (s : Shared) (σ : St) (H : Hp) (Q : Bool → Hp → Prop), Inv X pins σ H s → t σ H Q → wpAny (model X.prog X.w) X.A (isTrue e X.env whole) (TP X pins σ Q) X.xe s
theorem PW.pt {X : Cx} {e : Expr} {t : TT} (h : PW X e t) : PT X e t := h _
/-- an argument list (no star), from the left -/
def PA (X : Cx) (es : List Expr) (t : TA) : Prop :=
  ∀ (pos : Pos) (pins : List (Addr × Obj)) (s : Shared) (σ : St) (H : Hp) (Q : List V → Hp → Prop), Inv X pins σ H s → t σ H Q → wpAny (model X.prog X.w) X.A (spliced (backTo pos (starEach es X.env))) (AP X pins σ Q) X.xe s
def PS (X : Cx) (st : Stmt) (t : TS) : Prop :=
  ∀ (pins : List (Addr × Obj)) (s : Shared) (σ : St) (H : Hp) (D : Ends), Inv X pins σ H s → t D σ H → wpAny (model X.prog X.w) X.A (exec st X.env) (SP X pins D) X.xe s
def PSs (X : Cx) (st : List Stmt) (t : TS) : Prop :=
  ∀ (pins : List (Addr × Obj)) (s : Shared) (σ : St) (H : Hp) (D : Ends), Inv X pins σ H s → t D σ H → wpAny (model X.prog X.w) X.A (execs st X.env) (SP X pins D) X.xe s
/-- weaken the end -/
theorem thn {α : Type} {t : Sem α} {Q Q' : α → Shared → Prop} {M : Model} {A : Around} {E : Value → Shared → Prop} {s : Shared} (h : wpAny M A t Q E s) (hQ : ∀ a s, Q a s → Q' a s) : wpAny M A t Q' E s := wpAny_mono h hQ fun _ _ x => x
end L2

namespace L2
open PySem PySem.Spec PyProof.Rows
section
variable {X : Cx}

/-- two expressions in a row -/
theorem bin {a b : Expr} {ta tb : TE} (ha : PE X a ta) (hb : PE X b tb) {pins : List (Addr × Obj)} {s : Shared} {σ : St} {H : Hp} {R : V → V → Hp → Prop} (I : Inv X pins σ H s) (h : ta σ H fun x H1 => tb σ H1 fun y H2 => R x y H2)
    {α : Type} {Q : α → Shared → Prop} {f : Value → Value → Sem α}
    (hf : ∀ v u s2 x y H2, Inv X pins σ H2 s2 → RelV x v → RelV y u → R x y H2 → wpAny (model X.prog X.w) X.A (f v u) Q X.xe s2) :
    wpAny (model X.prog X.w) X.A (eval a X.env) (fun v s₁ => wpAny (model X.prog X.w) X.A (eval b X.env) (fun u s₂ => wpAny (model X.prog X.w) X.A (f v u) Q X.xe s₂) X.xe s₁) X.xe s := by
  refine thn (ha pins s σ H _ I h) fun v s1 ⟨x, H1, I1, r1, q1⟩ => ?_
  refine thn (hb pins s1 σ H1 _ I1 q1) fun u s2 ⟨y, H2, I2, r2, q2⟩ => ?_
  exact hf v u s2 x y H2 I2 r1 r2 q2

/-! ### names and constants -/
def tVar (i : Nat) : TE := fun σ H Q => ∃ v, σ[i]? = some (some v) ∧ Q v H
def tC (v : V) : TE := fun _ H Q => Q v H
theorem pe_var {i : Nat} {x : Str} {pos : Pos} (hN : X.N[i]? = some x) (hv : Vis X.env.scope x) (hd : (x == ("__debug__" : Str)) = false := by decide) (hcd : (x == ("__classdict__" : Str)) = false := by decide) : PE X (.Name x pos) (tVar i) := by
  intro pins s σ H Q I h
  obtain ⟨v, e, h⟩ := h
  obtain ⟨m, hn, hl⟩ := I.loc
  obtain ⟨u, r, l⟩ := hl i x v hN e hv
  have fin : EP X pins σ Q u s := ⟨v, H, I, r, h⟩
  rcases l with ⟨hk, hm⟩ | ⟨hk, c, hc, hcell⟩
  · exact wpAny_Name (wpAny_loadName_local I.ok.kind hk hn hm fin) hd
  · rcases hk with hk | hk
    · exact wpAny_Name (wpAny_loadName_cell I.ok.kind hk hc hcell fin) hd
    · exact wpAny_Name (wpAny_loadName_free I.ok.kind hk hc hcell fin hcd) hd
theorem pe_int {i j pos} : PE X (.Constant (.int i) j pos) (tC (.int i)) := fun _ _ _ H _ I h => wpAny_Constant_int ⟨.int i, H, I.tok _, ⟨_, rfl⟩, h⟩
theorem pe_bl {b j pos} : PE X (.Constant (.bool b) j pos) (tC (.bl b)) := fun _ _ _ H _ I h => Constant_bool ⟨.bl b, H, I, rfl, h⟩
theorem pe_non {j pos} : PE X (.Constant .none j pos) (tC .non) := fun _ _ _ H _ I h => Constant_none ⟨.non, H, I, rfl, h⟩
theorem pe_str {x j pos} : PE X (.Constant (.str x) j pos) (tC (.str x)) := fun _ _ _ H _ I h => Calls.Constant_str ⟨.str x, H, I.tok _, ⟨_, rfl⟩, h⟩

/-- a global name of the def -/
def Gl (X : Cx) (x : Str) : Prop := X.env.kindOf x = some .globalImplicit
theorem ld_glob {E : Value → Shared → Prop} {pins : List (Addr × Obj)} {s : Shared} {σ : St} {H : Hp} {x : Str} {u : Value} {pos : Pos} {Q : Value → Shared → Prop} (I : Inv X pins σ H s) (hg : Gl X x) (hm : X.mg x = some u) (h : Q u s)
    (hd : (x == ("__debug__" : Str)) = false := by decide) : wpAny (model X.prog X.w) X.A (eval (.Name x pos) X.env) Q E s :=
  Calls.Name_function_global I.ok.kind hg (Calls.loadGlobal_global (by rw [I.ok.glob]; exact I.mod.glob.keeps I.bk) hm h) hd
theorem ld_blt {E : Value → Shared → Prop} {pins : List (Addr × Obj)} {s : Shared} {σ : St} {H : Hp} {x : Str} {u : Value} {pos : Pos} {Q : Value → Shared → Prop} (I : Inv X pins σ H s) (hg : Gl X x) (hm : X.mg x = none) (hv : bootBuiltins x = some u) (h : Q u s)
    (hn : x ≠ "__name__" := by decide) (hd : (x == ("__debug__" : Str)) = false := by decide) : wpAny (model X.prog X.w) X.A (eval (.Name x pos) X.env) Q E s := by
  obtain ⟨mb, h1, h2⟩ := I.mod.blt
  exact Calls.Name_function_global I.ok.kind hg (Calls.loadGlobal_builtin (by rw [I.ok.glob]; exact I.mod.glob.keeps I.bk) hm (by rw [I.ok.blt]; exact h1.keeps I.bk) ((h2 x hn).trans hv) h) hd
/-- a module's constant, a class, a function, as a value -/
theorem pe_glob {x : Str} {v : V} {u : Value} {pos : Pos} (hg : Gl X x) (hm : X.mg x = some u) (r : RelV v u) (hd : (x == ("__debug__" : Str)) = false := by decide) : PE X (.Name x pos) (tC v) :=
  fun _ _ _ H _ I h => ld_glob I hg hm ⟨v, H, I, r, h⟩ hd
theorem pe_bltn {x : Str} {v : V} {u : Value} {pos : Pos} (hg : Gl X x) (hm : X.mg x = none) (hv : bootBuiltins x = some u) (r : RelV v u) (hn : x ≠ "__name__" := by decide) (hd : (x == ("__debug__" : Str)) = false := by decide) : PE X (.Name x pos) (tC v) :=
  fun _ _ _ H _ I h => ld_blt I hg hm hv ⟨v, H, I, r, h⟩ hn hd

/-! ### arithmetic -/
/-- two ints -/
def t2I (ta tb : TE) (k : Int → Int → Hp → Prop) : St → Hp → Prop := fun σ H => ta σ H fun x H1 => tb σ H1 fun y H2 => ∃ i j, x = .int i ∧ y = .int j ∧ k i j H2
def tAdd (ta tb : TE) : TE := fun σ H Q => t2I ta tb (fun i j H2 => Q (.int (i + j)) H2) σ H
def tSub (ta tb : TE) : TE := fun σ H Q => t2I ta tb (fun i j H2 => Q (.int (i - j)) H2) σ H
/-- the left factor below 2^64 -/
def tMul (ta tb : TE) : TE := fun σ H Q => t2I ta tb (fun i j H2 => (-(2 ^ 64) < i ∧ i < 2 ^ 64) ∧ Q (.int (i * j)) H2) σ H
variable {a b : Expr} {ta tb : TE} {pos : Pos}
theorem pe_add (ha : PE X a ta) (hb : PE X b tb) : PE X (.BinOp a .Add b pos) (tAdd ta tb) := by
  intro pins s σ H Q I h
  refine wpAny_BinOp (bin ha hb I h fun v u s2 x y H2 I2 rx ry q => ?_)
  obtain ⟨i, j, rfl, rfl, q⟩ := q
  obtain ⟨t, rfl⟩ := rx
  obtain ⟨t', rfl⟩ := ry
  exact add_int ⟨.int _, H2, I2.tok _, ⟨_, rfl⟩, q⟩
theorem pe_sub (ha : PE X a ta) (hb : PE X b tb) : PE X (.BinOp a .Sub b pos) (tSub ta tb) := by
  intro pins s σ H Q I h
  refine wpAny_BinOp (bin ha hb I h fun v u s2 x y H2 I2 rx ry q => ?_)
  obtain ⟨i, j, rfl, rfl, q⟩ := q
  obtain ⟨t, rfl⟩ := rx
  obtain ⟨t', rfl⟩ := ry
  exact sub_int ⟨.int _, H2, I2.tok _, ⟨_, rfl⟩, q⟩
theorem pe_mul (ha : PE X a ta) (hb : PE X b tb) : PE X (.BinOp a .Mult b pos) (tMul ta tb) := by
  intro pins s σ H Q I h
  refine wpAny_BinOp (bin ha hb I h fun v u s2 x y H2 I2 rx ry q => ?_)
  obtain ⟨i, j, rfl, rfl, ⟨q1, q2⟩, q⟩ := q
  obtain ⟨t, rfl⟩ := rx
  obtain ⟨t', rfl⟩ := ry
  exact mul_int ⟨.int _, H2, I2.tok _, ⟨_, rfl⟩, q⟩ (.of_left (intBits_le_64 q1 q2))

/-! ### comparisons -/
def PC (X : Cx) (op : CmpOp) (a b : Expr) (t : TE) : Prop :=
  ∀ (pins : List (Addr × Obj)) (s : Shared) (σ : St) (H : Hp) (Q : VK), Inv X pins σ H s → t σ H Q →
    wpAny (model X.prog X.w) X.A (eval a X.env) (fun v s₁ => wpAny (model X.prog X.w) X.A (eval b X.env) (fun u s₂ => wpAny (model X.prog X.w) X.A (compareOp op v u) (EP X pins σ Q) X.xe s₂) X.xe s₁) X.xe s
theorem nobehind (b : Expr) {op : CmpOp} (h : op ≠ .In) (h2 : op ≠ .NotIn) : behindInMarks op b = false := by
  have e1 : (op == CmpOp.In) = false := by cases op <;> first | rfl | exact absurd rfl h
  have e2 : (op == CmpOp.NotIn) = false := by cases op <;> first | rfl | exact absurd rfl h2
  cases b <;> simp [behindInMarks, e1, e2]
def tCmp (p : Int → Int → Bool) (ta tb : TE) : TE := fun σ H Q => t2I ta tb (fun i j H2 => Q (.bl (p i j)) H2) σ H
abbrev tLt : TE → TE → TE := tCmp fun i j => decide (i < j)
abbrev tLe : TE → TE → TE := tCmp fun i j => decide (i ≤ j)
abbrev tGt : TE → TE → TE := tCmp fun i j => decide (j < i)
abbrev tGe : TE → TE → TE := tCmp fun i j => decide (j ≤ i)
abbrev tEqI : TE → TE → TE := tCmp fun i j => decide (i = j)
abbrev tNeI : TE → TE → TE := tCmp fun i j => !decide (i = j)
/-- a comparison of two ints, by its rule -/
theorem pc_int {op : CmpOp} {p : Int → Int → Bool} (ha : PE X a ta) (hb : PE X b tb)
    (rule : ∀ (i j : Int) (t u : Tok) (Q : Value → Shared → Prop) (s : Shared), Q (.bool (p i j)) s → wpAny (model X.prog X.w) X.A (compareOp op (.int i t) (.int j u)) Q X.xe s) : PC X op a b (tCmp p ta tb) := by
  intro pins s σ H Q I h
  refine bin ha hb I h fun v u s2 x y H2 I2 rx ry q => ?_
  obtain ⟨i, j, rfl, rfl, q⟩ := q
  obtain ⟨t, rfl⟩ := rx
  obtain ⟨t', rfl⟩ := ry
  exact rule i j t t' _ s2 ⟨.bl _, H2, I2, rfl, q⟩
theorem pc_lt (ha : PE X a ta) (hb : PE X b tb) : PC X .Lt a b (tLt ta tb) := pc_int ha hb fun _ _ _ _ _ _ h => lt_int h
theorem pc_le (ha : PE X a ta) (hb : PE X b tb) : PC X .LtE a b (tLe ta tb) := pc_int ha hb fun _ _ _ _ _ _ h => le_int h
theorem pc_gt (ha : PE X a ta) (hb : PE X b tb) : PC X .Gt a b (tGt ta tb) := pc_int ha hb fun _ _ _ _ _ _ h => gt_int h
theorem pc_ge (ha : PE X a ta) (hb : PE X b tb) : PC X .GtE a b (tGe ta tb) := pc_int ha hb fun _ _ _ _ _ _ h => ge_int h
theorem pc_eqI (ha : PE X a ta) (hb : PE X b tb) : PC X .Eq a b (tEqI ta tb) := pc_int ha hb fun _ _ _ _ _ _ h => eq_int (by rw [Bool.beq_eq_decide_eq]; exact h)
theorem pc_neI (ha : PE X a ta) (hb : PE X b tb) : PC X .NotEq a b (tNeI ta tb) := pc_int ha hb fun _ _ _ _ _ _ h => ne_int (by rw [bne, Bool.beq_eq_decide_eq]; exact h)
/-- is None -/
def tIsN (ta : TE) : TE := fun σ H Q => ta σ H fun x H1 => Q (.bl (decide (x = .non))) H1
def tNotN (ta : TE) : TE := fun σ H Q => ta σ H fun x H1 => Q (.bl (!decide (x = .non))) H1
theorem RelV.none_iff {x : V} {v : Value} (r : RelV x v) : (v == Value.none) = decide (x = .non) := by
  cases x with
  | non => cases r; rfl
  | bl _ => cases r; rfl
  | int _ => obtain ⟨t, rfl⟩ := r; rfl
  | str _ => obtain ⟨t, rfl⟩ := r; rfl
  | byt _ => obtain ⟨t, rfl⟩ := r; rfl
  | flt _ => obtain ⟨t, rfl⟩ := r; rfl
  | ref _ => cases r; rfl
  | ty _ => cases r; rfl
theorem pc_isN {j pos'} (ha : PE X a ta) : PC X .Is a (.Constant .none j pos') (tIsN ta) := by
  intro pins s σ H Q I h
  refine thn (ha pins s σ H _ I h) fun v s1 ⟨x, H1, I1, r1, q1⟩ => ?_
  exact Constant_none (is_none_gen ⟨.bl _, H1, I1, by rw [r1.none_iff]; rfl, q1⟩)
theorem pc_notN {j pos'} (ha : PE X a ta) : PC X .IsNot a (.Constant .none j pos') (tNotN ta) := by
  intro pins s σ H Q I h
  refine thn (ha pins s σ H _ I h) fun v s1 ⟨x, H1, I1, r1, q1⟩ => ?_
  exact Constant_none (isnot_none_gen ⟨.bl _, H1, I1, by rw [r1.none_iff]; rfl, q1⟩)
/-- a comparison as a value, as a test -/
def tB (t : TE) : TT := fun σ H Q => t σ H fun x H1 => ∃ c, x = .bl c ∧ Q c H1
theorem pe_cmp {op : CmpOp} {t : TE} (h : PC X op a b t) (h1 : behindInMarks op b = false := by first | exact nobehind _ (by decide) (by decide) | rfl) : PE X (.Compare a [op] [b] pos) t := fun pins s σ H Q I hw => wpAny_Compare1 (h pins s σ H Q I hw) h1
theorem pt_cmp {op : CmpOp} {t : TE} (h : PC X op a b t) (h1 : behindInMarks op b = false := by first | exact nobehind _ (by decide) (by decide) | rfl) : PT X (.Compare a [op] [b] pos) (tB t) := by
  intro pins s σ H Q I hw
  refine wpAny_isTrue_Compare1 (thn (h pins s σ H _ I hw) fun v s1 h1 => thn h1 fun u s2 h2 => thn h2 fun c s3 ⟨x, H1, I1, r1, q1⟩ => ?_) h1
  obtain ⟨d, rfl, q⟩ := q1
  cases r1
  exact wpAny_truthy_bool ⟨H1, I1, q⟩
/-- an expression whose value is a bool, as a test -/
theorem pt_val {e : Expr} {t : TE} (h : PE X e t) (he : ∀ whole, isTrue e X.env whole = (do let v ← whole; standAt e.pos; holding [v] (truthy v)) := by intro _; rfl) : PT X e (tB t) := by
  intro pins s σ H Q I hw
  refine isTrue_plain (thn (h pins s σ H _ I hw) fun v s1 ⟨x, H1, I1, r1, q1⟩ => ?_) (he _)
  obtain ⟨d, rfl, q⟩ := q1
  cases r1
  exact wpAny_truthy_bool ⟨H1, I1, q⟩

/-! ### and, or, not -/
variable {tA tB' : TT} {rest : List Expr}
def tAnd (t u : TT) : TT := fun σ H Q => t σ H fun c H1 => if c = true then u σ H1 Q else Q false H1
def tOr (t u : TT) : TT := fun σ H Q => t σ H fun c H1 => if c = true then Q true H1 else u σ H1 Q
def tNot (t : TT) : TT := fun σ H Q => t σ H fun c H1 => Q (!c) H1
theorem pw_and1 (ha : PT X a tA) : PW X (.BoolOp .And [a] pos) tA := by
  intro wh pins s σ H Q I h
  refine isTrue_and (thn (ha pins s σ H Q I h) fun c s1 e => ?_)
  cases c with
  | true => exact isTrue_and_nil e
  | false => exact e
theorem pw_or1 (ha : PT X a tA) : PW X (.BoolOp .Or [a] pos) tA := by
  intro wh pins s σ H Q I h
  refine isTrue_or (thn (ha pins s σ H Q I h) fun c s1 e => ?_)
  cases c with
  | false => exact isTrue_or_nil e
  | true => exact e
theorem pw_and (ha : PT X a tA) (hb : PW X (.BoolOp .And (b :: rest) pos) tB') : PW X (.BoolOp .And (a :: b :: rest) pos) (tAnd tA tB') := by
  intro wh pins s σ H Q I h
  refine isTrue_and (thn (ha pins s σ H _ I h) fun c s1 ⟨H1, I1, q1⟩ => ?_)
  cases c with
  | true => exact hb wh pins s1 σ H1 Q I1 q1
  | false => exact ⟨H1, I1, q1⟩
theorem pw_or (ha : PT X a tA) (hb : PW X (.BoolOp .Or (b :: rest) pos) tB') : PW X (.BoolOp .Or (a :: b :: rest) pos) (tOr tA tB') := by
  intro wh pins s σ H Q I h
  refine isTrue_or (thn (ha pins s σ H _ I h) fun c s1 ⟨H1, I1, q1⟩ => ?_)
  cases c with
  | true => exact ⟨H1, I1, q1⟩
  | false => exact hb wh pins s1 σ H1 Q I1 q1
theorem pt_not (ha : PT X a tA) : PT X (.UnaryOp .Not a pos) (tNot tA) := by
  intro pins s σ H Q I h
  exact isTrue_not (ha pins s σ H (fun c H1 => Q (!c) H1) I h)
/-- .. as values (bools) -/
def tAndV (ta tb : TE) : TE := fun σ H Q => ta σ H fun x H1 => ∃ c, x = .bl c ∧ if c = true then tb σ H1 Q else Q (.bl false) H1
def tOrV (ta tb : TE) : TE := fun σ H Q => ta σ H fun x H1 => ∃ c, x = .bl c ∧ if c = true then Q (.bl true) H1 else tb σ H1 Q
def tNotV (ta : TE) : TE := fun σ H Q => ta σ H fun x H1 => ∃ c, x = .bl c ∧ Q (.bl (!c)) H1
theorem pe_one {op} {t : TE} (h : PE X a t) : PE X (.BoolOp op [a] pos) t := fun pins s σ H Q I hw => BoolOp_one (h pins s σ H Q I hw)
theorem pe_and (ha : PE X a ta) (hb : PE X (.BoolOp .And (b :: rest) pos) tb) : PE X (.BoolOp .And (a :: b :: rest) pos) (tAndV ta tb) := by
  intro pins s σ H Q I h
  refine BoolOp_and (thn (ha pins s σ H _ I h) fun v s1 ⟨x, H1, I1, r1, q1⟩ => ?_)
  obtain ⟨c, rfl, q1⟩ := q1
  cases r1
  refine wpAny_truthy_bool ?_
  cases c with
  | true => exact hb pins s1 σ H1 Q I1 q1
  | false => exact ⟨.bl false, H1, I1, rfl, q1⟩
theorem pe_or (ha : PE X a ta) (hb : PE X (.BoolOp .Or (b :: rest) pos) tb) : PE X (.BoolOp .Or (a :: b :: rest) pos) (tOrV ta tb) := by
  intro pins s σ H Q I h
  refine BoolOp_or (thn (ha pins s σ H _ I h) fun v s1 ⟨x, H1, I1, r1, q1⟩ => ?_)
  obtain ⟨c, rfl, q1⟩ := q1
  cases r1
  refine wpAny_truthy_bool ?_
  cases c with
  | false => exact hb pins s1 σ H1 Q I1 q1
  | true => exact ⟨.bl true, H1, I1, rfl, q1⟩
theorem pe_not (ha : PE X a ta) : PE X (.UnaryOp .Not a pos) (tNotV ta) := by
  intro pins s σ H Q I h
  refine UnaryOp_ (thn (ha pins s σ H _ I h) fun v s1 ⟨x, H1, I1, r1, q1⟩ => ?_)
  obtain ⟨c, rfl, q1⟩ := q1
  cases r1
  exact not_of (wpAny_truthy_bool ⟨.bl (!c), H1, I1, rfl, q1⟩)
/-- a if t else b -/
def tIf (t : TT) (ta tb : TE) : TE := fun σ H Q => t σ H fun c H1 => if c = true then ta σ H1 Q else tb σ H1 Q
theorem pe_ifExp {c : Expr} (hc : PT X c tA) (ha : PE X a ta) (hb : PE X b tb) : PE X (.IfExp c a b pos) (tIf tA ta tb) := by
  intro pins s σ H Q I h
  refine wpAny_IfExp (thn (hc pins s σ H _ I h) fun d s1 ⟨H1, I1, q1⟩ => ?_)
  cases d with
  | true => exact ha pins s1 σ H1 Q I1 q1
  | false => exact hb pins s1 σ H1 Q I1 q1
end
end L2

namespace L2
open PySem PySem.Spec PyProof.Rows

/-! ### a list, a tuple that is read: tracked, frozen, or an object of the module -/
def SqL (K : PySem.W.Frag) (H : Hp) (a : Addr) (xs : List V) : Prop :=
  Rd H a (.lst xs) ∨
    ∃ (o : Obj) (its : Array Value) (n : Nat), K.lookup a = some o ∧ o.cls = .type "list" ∧ o.dict = none ∧ o.data = .seq its n ∧ its.size ≤ sizeLine ∧ Vals xs its.toList
def SqT (K : PySem.W.Frag) (H : Hp) (a : Addr) (xs : List V) : Prop :=
  Rd H a (.tup xs) ∨
    ∃ (o : Obj) (its : Array Value) (n : Nat), K.lookup a = some o ∧ o.cls = .type "tuple" ∧ o.data = .seq its n ∧ its.size ≤ sizeLine ∧ Vals xs its.toList
def absV : Value → Option V
  | .none => some .non
  | .bool b => some (.bl b)
  | .int i _ => some (.int i)
  | .str x _ => some (.str x)
  | .bytes b _ => some (.byt b)
  | .float b _ => some (.flt b)
  | .ref a => some (.ref a)
  | .type n => some (.ty n)
  | _ => none
theorem RelV.abs {x : V} {u : Value} (r : RelV x u) : absV u = some x := by
  cases x with
  | non => cases r; rfl
  | bl _ => cases r; rfl
  | int _ => obtain ⟨t, rfl⟩ := r; rfl
  | str _ => obtain ⟨t, rfl⟩ := r; rfl
  | byt _ => obtain ⟨t, rfl⟩ := r; rfl
  | flt _ => obtain ⟨t, rfl⟩ := r; rfl
  | ref _ => cases r; rfl
  | ty _ => cases r; rfl
theorem RelV.inj {x y : V} {u : Value} (r : RelV x u) (q : RelV y u) : x = y := Option.some.inj (r.abs.symm.trans q.abs)
theorem Vals.inj : ∀ {xs ys : List V} {us : List Value}, Vals xs us → Vals ys us → xs = ys
  | _, _, _, .nil, .nil => rfl
  | _, _, _, .cons r t, .cons r' t' => by rw [r.inj r', Vals.inj t t']
section
variable {X : Cx} {pins : List (Addr × Obj)} {σ : St} {H : Hp} {s : Shared} {a : Addr} {xs ys : List V}
theorem SqL.of {K : PySem.W.Frag} (h : H a = some (.lst xs)) : SqL K H a xs := .inl (.inl h)
theorem SqT.of {K : PySem.W.Frag} (h : H a = some (.tup xs)) : SqT K H a xs := .inl (.inl h)
theorem Inv.list (I : Inv X pins σ H s) (h : SqL X.K H a xs) : ∃ its : List Value, Vals xs its ∧ PlainL s.heap a its.toArray ∧ xs.length ≤ sizeLine := by
  rcases h with h | ⟨o, its, n, hk, hc, hd, hs, hz, r⟩
  · obtain ⟨z, its, n, r, e⟩ := h.ok I.hok
    exact ⟨its, r, ⟨_, n, e, rfl, rfl, rfl⟩, z⟩
  · refine ⟨its.toList, r, ⟨o, n, I.kIn a o hk, hc, hd, by simpa using hs⟩, ?_⟩
    have e := r.length
    simp only [Array.length_toList] at e
    omega
theorem Inv.tuple (I : Inv X pins σ H s) (h : SqT X.K H a xs) : ∃ its : List Value, Vals xs its ∧ IsTup s.heap a its.toArray ∧ xs.length ≤ sizeLine := by
  rcases h with h | ⟨o, its, n, hk, hc, hs, hz, r⟩
  · obtain ⟨z, its, r, p⟩ := h.ok I.hok
    exact ⟨its, r, p, z⟩
  · refine ⟨its.toList, r, ⟨o, I.kIn a o hk, hc, n, by simpa using hs⟩, ?_⟩
    have e := r.length
    simp only [Array.length_toList] at e
    omega
theorem Inv.list_inj (I : Inv X pins σ H s) (h : SqL X.K H a xs) (h' : SqL X.K H a ys) : xs = ys := by
  obtain ⟨its, r, ⟨o, n, e, _, _, d⟩, _⟩ := I.list h
  obtain ⟨its', r', ⟨o', n', e', _, _, d'⟩, _⟩ := I.list h'
  rw [e] at e'; cases e'
  rw [d] at d'
  injection d' with d1 _
  have : its = its' := by simpa using congrArg Array.toList d1
  subst this
  exact r.inj r'
theorem Inv.tuple_inj (I : Inv X pins σ H s) (h : SqT X.K H a xs) (h' : SqT X.K H a ys) : xs = ys := by
  obtain ⟨its, r, ⟨o, e, _, n, d⟩, _⟩ := I.tuple h
  obtain ⟨its', r', ⟨o', e', _, n', d'⟩, _⟩ := I.tuple h'
  rw [e] at e'; cases e'
  rw [d] at d'
  injection d' with d1 _
  have : its = its' := by simpa using congrArg Array.toList d1
  subst this
  exact r.inj r'
end

/-! ### another wish about exceptions -/
abbrev Cx.wish (X : Cx) (E : Value → Shared → Prop) : Cx := { X with xe := E }
/-- no exception leaves -/
abbrev Cx.nox (X : Cx) : Cx := X.wish fun _ _ => False
theorem Cx.Ok.wish {X : Cx} (ok : X.Ok) (E : Value → Shared → Prop) : (X.wish E).Ok :=
  ⟨ok.mod, ok.kind, ok.glob, ok.blt, ok.above, ok.inj, ok.has, ok.cab, ok.hd, ok.frames, ok.stk, ok.exf, ok.bs, ok.bsz, ok.noex, ok.exfs, ok.funs, ok.frf⟩
theorem Cx.Ok.unwish {X : Cx} {E : Value → Shared → Prop} (ok : (X.wish E).Ok) : X.Ok :=
  ⟨ok.mod, ok.kind, ok.glob, ok.blt, ok.above, ok.inj, ok.has, ok.cab, ok.hd, ok.frames, ok.stk, ok.exf, ok.bs, ok.bsz, ok.noex, ok.exfs, ok.funs, ok.frf⟩
section
variable {X : Cx} {pins : List (Addr × Obj)} {σ : St} {H : Hp} {s : Shared} {E : Value → Shared → Prop}
theorem Inv.wish (I : Inv X pins σ H s) (E : Value → Shared → Prop) : Inv (X.wish E) pins σ H s := ⟨I.ok.wish E, I.os, I.bare, I.base, I.loc, I.cell, I.free, I.freeC, I.pin, I.hok, I.len⟩
theorem Inv.unwish (I : Inv (X.wish E) pins σ H s) : Inv X pins σ H s := ⟨I.ok.unwish, I.os, I.bare, I.base, I.loc, I.cell, I.free, I.freeC, I.pin, I.hok, I.len⟩
theorem SP.unwish {D : Ends} {f : Flow} {s' : Shared} (h : SP (X.wish E) pins D f s') : SP X pins D f s' := by
  cases f with
  | next => obtain ⟨σ', H', I, q⟩ := h; exact ⟨σ', H', I.unwish, q⟩
  | brk => obtain ⟨σ', H', I, q⟩ := h; exact ⟨σ', H', I.unwish, q⟩
  | cont => obtain ⟨σ', H', I, q⟩ := h; exact ⟨σ', H', I.unwish, q⟩
  | ret u => obtain ⟨v, σ', H', I, r, q⟩ := h; exact ⟨v, σ', H', I.unwish, r, q⟩
theorem PE.nox {e : Expr} {t : TE} (h : PE X.nox e t) : PE X e t := fun pins s σ H Q I hw =>
  wpAny_mono (h pins s σ H Q (I.wish _) hw) (fun _ _ ⟨v, H', I', r, q⟩ => ⟨v, H', I'.unwish, r, q⟩) fun _ _ z => False.elim z
theorem PT.nox {e : Expr} {t : TT} (h : PT X.nox e t) : PT X e t := fun pins s σ H Q I hw =>
  wpAny_mono (h pins s σ H Q (I.wish _) hw) (fun _ _ ⟨H', I', q⟩ => ⟨H', I'.unwish, q⟩) fun _ _ z => False.elim z
theorem PSs.nox {st : List Stmt} {t : TS} (h : PSs X.nox st t) : PSs X st t := fun pins s σ H D I hw =>
  wpAny_mono (h pins s σ H D (I.wish _) hw) (fun _ _ q => q.unwish) fun _ _ z => False.elim z
end

/-! ### blocks and small statements -/
section
variable {X : Cx} {st : Stmt} {rest : List Stmt} {t u : TS} {e : Expr} {te : TE} {pos : Pos}
def tNext : TS := fun D σ H => D.nx σ H
def tSeq (t u : TS) : TS := fun D σ H => t { D with nx := u D } σ H
theorem pss_nil : PSs X [] tNext := fun _ _ σ H _ I h => wpAny_execs_nil ⟨σ, H, I, h⟩
theorem pss_cons (h1 : PS X st t) (h2 : PSs X rest u) : PSs X (st :: rest) (tSeq t u) := by
  intro pins s σ H D I h
  refine wpAny_execs_cons (thn (h1 pins s σ H { D with nx := u D } I h) fun f s1 q => ?_)
  cases f with
  | next =>
    obtain ⟨σ', H', I', q⟩ := q
    exact h2 pins s1 σ' H' D I' q
  | ret v => exact q
  | brk => exact q
  | cont => exact q
theorem pss_one (h1 : PS X st t) : PSs X [st] t := by
  intro pins s σ H D I h
  refine wpAny_execs_cons (thn (h1 pins s σ H D I h) fun f s1 q => ?_)
  cases f with
  | next => exact wpAny_execs_nil q
  | ret v => exact q
  | brk => exact q
  | cont => exact q
def tBreak : TS := fun D σ H => D.bk σ H
def tCont : TS := fun D σ H => D.ct σ H
theorem ps_pass : PS X (.Pass pos) tNext := fun _ _ σ H _ I h => wpAny_Pass ⟨σ, H, I, h⟩
theorem ps_break : PS X (.Break pos) tBreak := fun _ _ σ H _ I h => wpAny_Break ⟨σ, H, I, h⟩
theorem ps_continue : PS X (.Continue pos) tCont := fun _ _ σ H _ I h => wpAny_Continue ⟨σ, H, I, h⟩
/-- in a def's body nothing is shown -/
theorem Inv.quiet {pins : List (Addr × Obj)} {σ : St} {H : Hp} {s : Shared} (I : Inv X pins σ H s) : interactive X.env = false := by simp [interactive, I.ok.kind]
/-- a docstring -/
theorem ps_doc {x j pos pos'} : PS X (.Expr (.Constant (.str x) j pos) pos') tNext := fun _ s σ H _ I h => wpAny_Expr (Calls.Constant_str (show SP X _ _ .next { s with toks := s.toks + 1 } from ⟨σ, H, I.tok _, h⟩)) I.quiet
/-- an expression whose value is dropped -/
def tDrop (te : TE) : TS := fun D σ H => te σ H fun _ H1 => D.nx σ H1
theorem ps_expr (he : PE X e te) (hs : swapsWith e none pos.line X.env = pure false := by rfl) : PS X (.Expr e pos) (tDrop te) := by
  intro pins s σ H D I h
  exact wpAny_Expr_any (thn (he pins s σ H _ I h) fun v s1 ⟨x, H1, I1, r1, q1⟩ => ⟨σ, H1, I1, q1⟩) I.quiet hs
def tRet (te : TE) : TS := fun D σ H => te σ H D.rt
theorem ps_ret (he : PE X e te) : PS X (.Return (some e) pos) (tRet te) := by
  intro pins s σ H D I h
  exact wpAny_Return_some (thn (he pins s σ H _ I h) fun v s1 ⟨x, H1, I1, r1, q1⟩ => ⟨x, σ, H1, I1, r1, q1⟩)
def tRetN : TS := fun D _ H => D.rt .non H
theorem ps_retN : PS X (.Return none pos) tRetN := fun _ _ σ H _ I h => wpAny_Return_none ⟨.non, σ, H, I, rfl, h⟩
def tIfS (c : TT) (t u : TS) : TS := fun D σ H => c σ H fun b H1 => if b = true then t D σ H1 else u D σ H1
theorem ps_if {c : Expr} {a b : List Stmt} {tc : TT} (hc : PT X c tc) (ha : PSs X a t) (hb : PSs X b u) : PS X (.If c a b pos) (tIfS tc t u) := by
  intro pins s σ H D I h
  refine wpAny_If (thn (hc pins s σ H _ I h) fun d s1 ⟨H1, I1, q1⟩ => ?_)
  cases d with
  | true => exact ha pins s1 σ H1 D I1 q1
  | false => exact hb pins s1 σ H1 D I1 q1
/-- code that the proof never comes to -/
def tNever : TS := fun _ _ _ => False
theorem ps_never : PS X st tNever := fun _ _ _ _ _ _ h => h.elim
theorem pss_never {sts : List Stmt} : PSs X sts tNever := fun _ _ _ _ _ _ h => h.elim
end

/-! ### targets -/
abbrev TG := V → St → Hp → (St → Hp → Prop) → Prop
abbrev TGs := List V → St → Hp → (St → Hp → Prop) → Prop
def PG (X : Cx) (target : Expr) (t : TG) : Prop :=
  ∀ (pins : List (Addr × Obj)) (s : Shared) (σ : St) (H : Hp) (v : V) (u : Value) (Q : St → Hp → Prop), Inv X pins σ H s → RelV v u → t v σ H Q →
    wpAny (model X.prog X.w) X.A (assign target X.env u) (fun _ s' => ∃ σ' H', Inv X pins σ' H' s' ∧ Q σ' H') X.xe s
/-- several targets, one after another -/
def PGs (X : Cx) (ts : List Expr) (t : TGs) : Prop :=
  ∀ (pins : List (Addr × Obj)) (s : Shared) (σ : St) (H : Hp) (vs : List V) (us : List Value) (Q : St → Hp → Prop), Inv X pins σ H s → Vals vs us → t vs σ H Q →
    wpAny (model X.prog X.w) X.A (assignInOrder ((assignEach ts X.env).map (·.2)) us) (fun _ s' => ∃ σ' H', Inv X pins σ' H' s' ∧ Q σ' H') X.xe s
/-- o[i] = v, by values -/
abbrev TSet := V → V → V → Hp → (Hp → Prop) → Prop
def PSet (X : Cx) (t : TSet) : Prop :=
  ∀ (pins : List (Addr × Obj)) (s : Shared) (σ : St) (H : Hp) (o i v : V) (ov iv u : Value) (Q : Hp → Prop), Inv X pins σ H s → RelV o ov → RelV i iv → RelV v u → t o i v H Q →
    wpAny (model X.prog X.w) X.A (setItem ov iv u) (fun _ s' => ∃ H', Inv X pins σ H' s' ∧ Q H') X.xe s
/-- a op= b, by values -/
abbrev TIp := V → V → Hp → VK → Prop
def PIp (X : Cx) (op : Operator) (t : TIp) : Prop :=
  ∀ (pins : List (Addr × Obj)) (s : Shared) (σ : St) (H : Hp) (x y : V) (v u : Value) (Q : VK), Inv X pins σ H s → RelV x v → RelV y u → t x y H Q →
    wpAny (model X.prog X.w) X.A (inplaceOp op v u) (EP X pins σ Q) X.xe s
section
variable {X : Cx} {pos : Pos}
def gName (i : Nat) : TG := fun v σ H Q => Q (σ.set i (some v)) H
theorem pg_name {i : Nat} {x : Str} (hN : X.N.Nodup) (hi : X.N[i]? = some x) (hx : Loc X.env.scope x) (hf : X.fn x = true ∨ X.env.scope.names.lookup x = some .local := by first | exact .inl rfl | exact .inr rfl | assumption) : PG X (.Name x pos) (gName i) := by
  intro pins s σ H v u Q I r h
  exact wpAny_assign_Name (store_ok I hN hi hx r (fun s' I' => ⟨_, H, I', h⟩) hf)
def gNil : TGs := fun vs σ H Q => vs = [] ∧ Q σ H
def gCons (t : TG) (u : TGs) : TGs := fun vs σ H Q => ∃ v r, vs = v :: r ∧ t v σ H fun σ' H' => u r σ' H' Q
theorem pgs_nil : PGs X [] gNil := by
  intro pins s σ H vs us Q I r h
  obtain ⟨e, h⟩ := h
  subst e
  cases r
  exact assignInOrder_nil ⟨σ, H, I, h⟩
theorem pgs_cons {e : Expr} {es : List Expr} {t : TG} {u : TGs} (h1 : PG X e t) (h2 : PGs X es u)
    (hs : (assignEach (e :: es) X.env).map (·.2) = assign e X.env :: (assignEach es X.env).map (·.2) := by rfl) : PGs X (e :: es) (gCons t u) := by
  intro pins s σ H vs us Q I r h
  obtain ⟨v, vr, e1, h⟩ := h
  subst e1
  cases r with
  | cons r rr =>
    rw [hs]
    refine assignInOrder_cons (thn (h1 pins s σ H _ _ _ I r h) fun _ s1 ⟨σ1, H1, I1, q1⟩ => ?_)
    exact h2 pins s1 σ1 H1 _ _ Q I1 rr q1
/-- (a, b, ..) = a tuple of that length -/
def gTup (K : PySem.W.Frag) (n : Nat) (t : TGs) : TG := fun v σ H Q => ∃ a xs, v = .ref a ∧ SqT K H a xs ∧ xs.length = n ∧ t xs σ H Q
theorem pg_tup {es : List Expr} {k : Nat} {t : TGs} {n : Nat} (hc : X.calm = true) (h : PGs X es t)
    (hn : (assignEach es X.env).length = n := by rfl) (hst : (assignEach es X.env).findIdx? (·.1) = none := by rfl) : PG X (.Tuple es k pos) (gTup X.K n t) := by
  intro pins s σ H v u Q I r hw
  obtain ⟨a, xs, e1, hq, hl, hw⟩ := hw
  subst e1
  cases r
  obtain ⟨its, rv, ht, hz⟩ := I.tuple hq
  refine assign_Tuple_tuple (I.ok.hd hc) ht (by simp [hn, ← hl, rv.length]) hst fun h' hx => ?_
  have I1 : Inv X pins σ H { s with heap := h' } := I.kept (t' := s.toks) fun b o e => hx b o (Nat.ne_of_lt (Heap.lt_size e)) e
  exact h pins _ σ H xs _ Q I1 (by simpa using rv) hw
/-- o[i] = .. -/
def gSub (to ti : TE) (t : TSet) : TG := fun v σ H Q => to σ H fun o H1 => ti σ H1 fun i H2 => t o i v H2 fun H3 => Q σ H3
theorem pg_sub {o i : Expr} {to ti : TE} {t : TSet} (ho : PE X o to) (hi : PE X i ti) (hs : PSet X t)
    (ha : ∀ v, assign (.Subscript o i pos) X.env v = (do
      let ov ← holding [v] (eval o X.env)
      let iv ← holding [v, ov] (eval i X.env)
      standAt pos
      holding [v, ov, iv] (setItem ov iv v)
      release [v, ov, iv] []) := by intro _; rfl) : PG X (.Subscript o i pos) (gSub to ti t) := by
  intro pins s σ H v u Q I r h
  rw [ha]
  refine wpAny_bind (wpAny_holding (thn (ho pins s σ H _ I h) fun ov s1 ⟨x, H1, I1, r1, q1⟩ => ?_))
  refine wpAny_bind (wpAny_holding (thn (hi pins s1 σ H1 _ I1 q1) fun iv s2 ⟨y, H2, I2, r2, q2⟩ => ?_))
  refine wpAny_bind (wpAny_standAt (wpAny_bind (wpAny_holding (thn (hs pins s2 σ H2 x y v ov iv u _ I2 r1 r2 r q2) fun _ s3 ⟨H3, I3, q3⟩ => ?_))))
  exact wpAny_release ⟨σ, H3, I3, q3⟩
/-- target = value -/
def tAsg (te : TE) (g : TG) : TS := fun D σ H => te σ H fun x H1 => g x σ H1 D.nx
theorem ps_asg {tg e : Expr} {te : TE} {g : TG} (he : PE X e te) (hg : PG X tg g) (hs : swapsWithSole [tg] e pos.line X.env = pure false := by rfl) (hw : swappedStores [tg] e X.env = pure none := by rfl)
    (h1 : (assignEach [tg] X.env).map (·.2) = [assign tg X.env] := by rfl) : PS X (.Assign [tg] e pos) (tAsg te g) := by
  intro pins s σ H D I h
  refine wpAny_Assign_stores (thn (he pins s σ H _ I h) fun v s1 ⟨x, H1, I1, r1, q1⟩ => ?_) hs hw
  rw [h1]
  exact thn (hg pins s1 σ H1 x v _ I1 r1 q1) fun _ s2 q => q
/-- name = value -/
theorem ps_set {i : Nat} {x : Str} {e : Expr} {te : TE} {pos' : Pos} (hN : X.N.Nodup) (hi : X.N[i]? = some x) (hx : Loc X.env.scope x) (he : PE X e te) (hs : swapsWith e (some (.Name x pos')) pos.line X.env = pure false := by rfl) (hf : X.fn x = true ∨ X.env.scope.names.lookup x = some .local := by first | exact .inl rfl | exact .inr rfl | assumption) :
    PS X (.Assign [.Name x pos'] e pos) (tAsg te (gName i)) := by
  intro pins s σ H D I h
  refine wpAny_Assign_Name (thn (he pins s σ H _ I h) fun v s1 ⟨y, H1, I1, r1, q1⟩ => ?_) hs
  exact store_ok I1 hN hi hx r1 (fun s2 I2 => ⟨_, H1, I2, q1⟩) hf
/-- a, b = x, y with plain local names: stored from the right; the pair itself is not tracked (the opening rows as in PyProof/Rows/TupAssign.lean:23) -/
def tPar (i j : Nat) (ta : TA) : TS := fun D σ H => ta σ H fun vs H1 => ∃ v w, vs = [v, w] ∧ D.nx ((σ.set i (some v)).set j (some w)) H1
theorem ps_par {i j : Nat} {x y : Str} {a b : Expr} {ta : TA} {px py pt : Pos} {kt k2 pt2} (hc : X.calm = true) (hN : X.N.Nodup) (hi : X.N[i]? = some x) (hj : X.N[j]? = some y) (hij : i ≠ j)
    (hx : X.env.scope.names.lookup x = some .local) (hy : X.env.scope.names.lookup y = some .local) (ha : PA X [a, b] ta)
    (hw : swappedStores [.Tuple [.Name x px, .Name y py] kt pt] (.Tuple [a, b] k2 pt2) X.env = pure (some [x, y]))
    (hs : swapsWithSole [.Tuple [.Name x px, .Name y py] kt pt] (.Tuple [a, b] k2 pt2) pos.line X.env = pure false := by rfl) :
    PS X (.Assign [.Tuple [.Name x px, .Name y py] kt pt] (.Tuple [a, b] k2 pt2) pos) (tPar i j ta) := by
  intro pins s σ H D I h
  rw [exec_Assign_arm]
  refine wpAny_bind (wpAny_standAt ?_)
  rw [hs]
  refine wpAny_bind (wpAny_pure ?_)
  rw [if_neg (by decide)]
  refine wpAny_bind (Tuple_ (thn (ha _ pins s σ H _ I h) fun us s1 ⟨vs, H1, I1, r1, q1⟩ => ?_))
  obtain ⟨v, w, e1, q1⟩ := q1
  subst e1
  obtain ⟨u1, u2, rfl, rv, rw'⟩ : ∃ u1 u2, us = [u1, u2] ∧ RelV v u1 ∧ RelV w u2 := by
    cases r1 with
    | cons p q =>
      cases q with
      | cons p' q' =>
        cases q'
        exact ⟨_, _, rfl, p, p'⟩
  refine wpAny_newObj_type ?_ (by show 2 ≤ sizeLine; decide)
  have I2 : Inv X pins σ H1 { s1 with heap := s1.heap.push { cls := .type "tuple", data := .seq [u1, u2].toArray } } := I1.kept (t' := s1.toks) fun b o e => Heap.get?_push_of_some _ e
  rw [hw]
  refine wpAny_bind (wpAny_pure ?_)
  show wpAny (model X.prog X.w) X.A (do rule "assign.swapped-stores"; let items ← unpackItems (.ref s1.heap.objs.size) 2 none; assignInOrder [fun v => bindName X.env y v, fun v => bindName X.env x v] items.reverse; pure Flow.next) _ _ _
  refine wpAny_bind (wpAny_rule (wpAny_bind (unpackItems_tuple (items := #[u1, u2]) (I.ok.hd hc) (IsTup.new s1.heap _) fun h' hx' => ?_)))
  have I3 := I2.kept (h' := h') (t' := s1.toks) fun b o e => hx' b o (Nat.ne_of_lt (Heap.lt_size e)) e
  show wpAny _ _ (assignInOrder [fun v => bindName X.env y v, fun v => bindName X.env x v] [u2, u1] >>= fun _ => pure Flow.next) _ _ _
  refine wpAny_bind (assignInOrder_cons (wpAny_bindName (store_ok I3 hN hj (.inl hy) rw' (fun s2 I4 => ?_) (.inr hy))))
  refine assignInOrder_cons (wpAny_bindName (store_ok I4 hN hi (.inl hx) rv (fun s3 I5 => assignInOrder_nil (wpAny_pure ?_)) (.inr hx)))
  rw [List.set_comm _ _ (Ne.symm hij)] at I5
  exact ⟨_, H1, I5, q1⟩
/-- name op= e -/
def tAug (i : Nat) (te : TE) (ti : TIp) : TS := fun D σ H => ∃ x, σ[i]? = some (some x) ∧ te σ H fun y H1 => ti x y H1 fun z H2 => D.nx (σ.set i (some z)) H2
theorem ps_aug {i : Nat} {x : Str} {e : Expr} {te : TE} {op : Operator} {ti : TIp} {pos' : Pos} (hN : X.N.Nodup) (hi : X.N[i]? = some x) (hx : Loc X.env.scope x) (he : PE X e te) (ho : PIp X op ti) (hf : X.fn x = true ∨ X.env.scope.names.lookup x = some .local := by first | exact .inl rfl | exact .inr rfl | assumption) :
    PS X (.AugAssign (.Name x pos') op e pos) (tAug i te ti) := by
  intro pins s σ H D I h
  obtain ⟨v, e1, h⟩ := h
  obtain ⟨m, hn, hl⟩ := I.loc
  have vis : Vis X.env.scope x := by rcases hx with k | k; exact .inl k; exact .inr (.inl k)
  obtain ⟨u, r, l⟩ := hl i x v hi e1 vis
  refine wpAny_AugAssign_Name ?_
  have go : wpAny (model X.prog X.w) X.A (eval e X.env) (fun w s₂ => wpAny (model X.prog X.w) X.A (inplaceOp op u w) (fun r s₃ => wpAny (model X.prog X.w) X.A (storeName X.env x r) (fun _ => SP X pins D .next) X.xe s₃) X.xe s₂) X.xe s := by
    refine thn (he pins s σ H _ I h) fun w s1 ⟨y, H1, I1, r1, q1⟩ => ?_
    refine thn (ho pins s1 σ H1 v y u w _ I1 r r1 q1) fun z s2 ⟨zv, H2, I2, r2, q2⟩ => ?_
    exact store_ok I2 hN hi hx r2 (fun s3 I3 => ⟨_, H2, I3, q2⟩) hf
  rcases l with ⟨hk, hm⟩ | ⟨hk, c, hc, hcell⟩
  · exact wpAny_loadName_local I.ok.kind hk hn hm go
  · rcases hk with hk | hk
    · exact wpAny_loadName_cell I.ok.kind hk hc hcell go
    · rcases hx with k | k
      · have : X.env.scope.names.lookup x = some .free := hk
        rw [k] at this; cases this
      · have : X.env.scope.names.lookup x = some .free := hk
        rw [k] at this; cases this
/-- o[i] op= e -/
def tAugS (to ti te : TE) (tget : V → V → Hp → VK → Prop) (tip : TIp) (tset : TSet) : TS := fun D σ H => to σ H fun o H1 => ti σ H1 fun i H2 => tget o i H2 fun x H3 => te σ H3 fun y H4 => tip x y H4 fun z H5 => tset o i z H5 fun H6 => D.nx σ H6
/-- o[i], by values -/
def PGet (X : Cx) (t : V → V → Hp → VK → Prop) : Prop :=
  ∀ (pins : List (Addr × Obj)) (s : Shared) (σ : St) (H : Hp) (o i : V) (ov iv : Value) (Q : VK), Inv X pins σ H s → RelV o ov → RelV i iv → t o i H Q →
    wpAny (model X.prog X.w) X.A (getItem ov iv) (EP X pins σ Q) X.xe s
theorem ps_augS {o i e : Expr} {to ti te : TE} {tget : V → V → Hp → VK → Prop} {tip : TIp} {tset : TSet} {op : Operator} {tpos : Pos} (ho : PE X o to) (hi : PE X i ti) (hg : PGet X tget) (he : PE X e te) (hp : PIp X op tip) (hs : PSet X tset)
    (ha : ∀ ov iv new, augStore i ov iv new = (do holding [new, ov, iv] (setItem ov iv new); release [new, ov, iv] []; pure .next) := by intros; rfl) : PS X (.AugAssign (.Subscript o i tpos) op e pos) (tAugS to ti te tget tip tset) := by
  intro pins s σ H D I h
  refine wpAny_AugAssign_SubscriptAny (thn (ho pins s σ H _ I h) fun ov s1 ⟨x1, H1, I1, r1, q1⟩ => ?_) ha
  refine thn (hi pins s1 σ H1 _ I1 q1) fun iv s2 ⟨x2, H2, I2, r2, q2⟩ => ?_
  refine thn (hg pins s2 σ H2 x1 x2 ov iv _ I2 r1 r2 q2) fun old s3 ⟨x3, H3, I3, r3, q3⟩ => ?_
  refine thn (he pins s3 σ H3 _ I3 q3) fun v s4 ⟨x4, H4, I4, r4, q4⟩ => ?_
  refine thn (hp pins s4 σ H4 x3 x4 old v _ I4 r3 r4 q4) fun new s5 ⟨x5, H5, I5, r5, q5⟩ => ?_
  exact thn (hs pins s5 σ H5 x1 x2 x5 ov iv new _ I5 r1 r2 r5 q5) fun _ s6 ⟨H6, I6, q6⟩ => ⟨σ, H6, I6, q6⟩
/-- ints -/
def ipI (f : Int → Int → Int) : TIp := fun x y H Q => ∃ i j, x = .int i ∧ y = .int j ∧ Q (.int (f i j)) H
theorem ip_add : PIp X .Add (ipI fun i j => i + j) := by
  intro pins s σ H x y v u Q I r1 r2 h
  obtain ⟨i, j, e1, e2, q⟩ := h
  subst e1; subst e2
  obtain ⟨t, rfl⟩ := r1
  obtain ⟨t', rfl⟩ := r2
  exact iadd_int ⟨.int _, H, I.tok _, ⟨_, rfl⟩, q⟩
theorem ip_sub : PIp X .Sub (ipI fun i j => i - j) := by
  intro pins s σ H x y v u Q I r1 r2 h
  obtain ⟨i, j, e1, e2, q⟩ := h
  subst e1; subst e2
  obtain ⟨t, rfl⟩ := r1
  obtain ⟨t', rfl⟩ := r2
  exact isub_int ⟨.int _, H, I.tok _, ⟨_, rfl⟩, q⟩
end

/-! ### while -/
section
variable {X : Cx} {pos : Pos}
/-- the invariant W with its measure -/
def tWhile (c : TT) (tb : TS) : TS := fun D σ H => ∃ W : Nat → St → Hp → Prop, (∃ m, W m σ H) ∧ ∀ m σ H, W m σ H →
  c σ H fun b H1 => if b = true then ∃ N : St → Hp → Prop, (∀ σ' H', N σ' H' → ∃ m', m' < m ∧ W m' σ' H') ∧ tb { D with nx := N, ct := N, bk := D.nx } σ H1 else D.nx σ H1
theorem ps_while {c : Expr} {body : List Stmt} {tc : TT} {tb : TS} (hp : PassesOwn (model X.prog X.w) X.A X.env X.xe) (hc : PT X c tc) (hb : PSs X body tb) : PS X (.While c body [] pos) (tWhile tc tb) := by
  intro pins s σ H D I h
  obtain ⟨W, ⟨m0, w0⟩, turn⟩ := h
  refine wpAny_While (codeAny_whileLoop (fun n s' => ∃ σ' H', Inv X pins σ' H' s' ∧ W n σ' H') ?_ m0 ⟨σ, H, I, w0⟩)
  rintro n s1 ⟨σ1, H1, I1, w1⟩
  refine wpAny_passesOwn hp (thn (hc pins s1 σ1 H1 _ I1 (turn n σ1 H1 w1)) fun b s2 ⟨H2, I2, q2⟩ => ?_)
  cases b with
  | true =>
    obtain ⟨N, hN, q2⟩ := q2
    rw [if_pos rfl]
    refine wpAny_passesOwn hp (thn (hb pins s2 σ1 H2 _ I2 q2) fun f s3 q3 => ?_)
    cases f with
    | next =>
      obtain ⟨σ3, H3, I3, n3⟩ := q3
      obtain ⟨m', hm, w3⟩ := hN σ3 H3 n3
      exact ⟨m', hm, σ3, H3, I3, w3⟩
    | cont =>
      obtain ⟨σ3, H3, I3, n3⟩ := q3
      obtain ⟨m', hm, w3⟩ := hN σ3 H3 n3
      exact ⟨m', hm, σ3, H3, I3, w3⟩
    | brk => exact q3
    | ret v => exact q3
  | false =>
    rw [if_neg Bool.false_ne_true]
    exact wpAny_execs_nil ⟨σ1, H2, I2, q2⟩
end

/-! ### what a loop or a comprehension walks -/
/-- at turn i: it yields x (the heap may grow), or it stops -/
structure It where
  go : Nat → Hp → Prop
  yld : Nat → Hp → V → Hp → Prop
  stop : Nat → Hp → Prop
/-- the iterator's own objects may turn: they are not the frame's, not pinned, younger than the entry (or a comprehension's own) -/
def FpOk (X : Cx) (pins : List (Addr × Obj)) (H : Hp) (b : Addr) : Prop :=
  H b = none ∧ b ≠ X.env.locals ∧ b ∉ X.fs ∧ (b ∈ X.ex ∨ X.s₀.heap.objs.size ≤ b) ∧ (∀ x c, X.env.cells.lookup x = some c → c ≠ b) ∧ ∀ p ∈ X.pn ++ pins, p.1 ≠ b
theorem Inv.fpOk {X : Cx} {pins : List (Addr × Obj)} {σ : St} {H H' : Hp} {s : Shared} {b : Addr} (I : Inv X pins σ H s) (hb : s.heap.objs.size ≤ b) (hn : H' b = none) : FpOk X pins H' b := by
  refine ⟨hn, Nat.ne_of_gt (Nat.lt_of_lt_of_le I.lt hb), I.nofs hb, .inr (Nat.le_trans I.sz hb), fun x c e z => ?_, fun p hp z => ?_⟩
  · obtain ⟨v, q⟩ := I.cell x c e
    exact absurd (Nat.lt_of_lt_of_le q.lt (by rw [z]; exact hb)) (Nat.lt_irrefl _)
  · exact absurd (Nat.lt_of_lt_of_le (Heap.lt_size (I.pin p hp).1) (by rw [z]; exact hb)) (Nat.lt_irrefl _)
structure Turn (P : Program) (w : World) (K : PySem.W.Frag) (tg : Expr) (J : It) (fp : List Addr) (it : Addr) (tn : Nat → Heap → Prop) : Prop where
  mem : it ∈ fp
  obj : ∀ i h, tn i h → ∀ b ∈ fp, ∃ o, h.get? b = some o ∧ ∀ v, o.data ≠ .cell v
  keep : ∀ i h h', tn i h → (∀ b ∈ fp, ∀ o, h.get? b = some o → h'.get? b = some o) → tn i h'
  item : ∀ (X : Cx), X.prog = P → X.w = w → X.K = K → X.calm = true → ∀ (i : Nat) (pins : List (Addr × Obj)) (s : Shared) (σ : St) (H : Hp) (E : Value → Shared → Prop), Inv X pins σ H s → (∀ b ∈ fp, FpOk X pins H b) → tn i s.heap → J.go i H →
    wpAny (model P w) X.A (pyNext (.ref it)) (fun r s1 => ∃ u, r = some u ∧
      wpAny (model P w) X.A (letOwnedTupleGo tg (.ref it) u) (fun _ s2 => ∃ x H', Inv X pins σ H' s2 ∧ RelV x u ∧ J.yld i H x H' ∧ tn (i + 1) s2.heap ∧ ∀ b ∈ fp, H' b = none) E s1) E s
  done : ∀ (X : Cx), X.prog = P → X.w = w → X.K = K → X.calm = true → ∀ (i : Nat) (pins : List (Addr × Obj)) (s : Shared) (σ : St) (H : Hp) (E : Value → Shared → Prop), Inv X pins σ H s → (∀ b ∈ fp, FpOk X pins H b) → tn i s.heap → J.stop i H →
    wpAny (model P w) X.A (pyNext (.ref it)) (fun r s1 => r = none ∧ Inv X pins σ H s1) E s
  self : ∀ (A : Around) (i : Nat) (s : Shared) (Q : Value → Shared → Prop) (E : Value → Shared → Prop), tn i s.heap → Q (.ref it) s → wpAny (model P w) A (pyIter (.ref it)) Q E s
abbrev TI := St → Hp → (It → Hp → Prop) → Prop
/-- an iterator has come -/
def PIE (X : Cx) (pins : List (Addr × Obj)) (σ : St) (tg : Expr) (R : It → Hp → Prop) (itv : Value) (s2 : Shared) : Prop :=
  ∃ (it : Addr) (fp : List Addr) (tn : Nat → Heap → Prop) (J : It) (H' : Hp), itv = .ref it ∧ Inv X pins σ H' s2 ∧ Turn X.prog X.w X.K tg J fp it tn ∧ tn 0 s2.heap ∧ (∀ b ∈ fp, FpOk X pins H' b) ∧ R J H'
def PI (X : Cx) (tg iter : Expr) (wi : TI) : Prop :=
  ∀ (pins : List (Addr × Obj)) (s : Shared) (σ : St) (H : Hp) (R : It → Hp → Prop), Inv X pins σ H s → wi σ H R →
    wpAny (model X.prog X.w) X.A (eval iter X.env) (fun v s1 => wpAny (model X.prog X.w) X.A (pyIter v) (PIE X pins σ tg R) X.xe s1) X.xe s

/-- the step ahead of the store is nothing for an iterator that keeps no tuple -/
theorem go_of {M : Model} {A : Around} {E : Value → Shared → Prop} {s : Shared} {tg : Expr} {it : Addr} {u : Value} {o : Obj} {n : String} {vs : Array Value} {Q : Unit → Shared → Prop} (ho : s.heap.get? it = some o) (hc : o.cls = .type n) (hd : o.data = .fields vs)
    (hn : ["enumerate", "zip", "dict_itemiterator", "dict_reverseitemiterator", "odict_iterator", "itertools.zip_longest", "itertools.pairwise"].contains n = false) (hQ : Q () s) : wpAny M A (letOwnedTupleGo tg (.ref it) u) Q E s := by
  unfold letOwnedTupleGo
  cases tg <;> first
    | exact wpAny_pure hQ
    | (cases u <;> first
        | exact wpAny_pure hQ
        | (refine wpAny_bind (wpAny_load ho ?_)
           rw [hc, hd]
           show wpAny M A (if (["enumerate", "zip", "dict_itemiterator", "dict_reverseitemiterator", "odict_iterator", "itertools.zip_longest", "itertools.pairwise"].contains n && vs[0]? == some (rawInt _)) = true then _ else _) Q E s
           rw [if_neg (by intro h; rw [hn, Bool.false_and] at h; cases h)]
           exact wpAny_pure hQ))

/-- the list at a, as it stands at each turn (a loop may append to it) -/
def Itl (K : PySem.W.Frag) (a : Addr) : It :=
  ⟨fun i H => ∃ xs x, SqL K H a xs ∧ xs[i]? = some x, fun i H x H' => H' = H ∧ ∀ xs, SqL K H a xs → xs[i]? = some x, fun i H => ∃ xs, SqL K H a xs ∧ xs.length ≤ i⟩
def Itt (K : PySem.W.Frag) (a : Addr) : It :=
  ⟨fun i H => ∃ xs x, SqT K H a xs ∧ xs[i]? = some x, fun i H x H' => H' = H ∧ ∀ xs, SqT K H a xs → xs[i]? = some x, fun i H => ∃ xs, SqT K H a xs ∧ xs.length ≤ i⟩
/-- lo, lo + 1, .. (n of them) -/
def Itr (lo : Int) (n : Nat) : It := ⟨fun i _ => i < n, fun i H x H' => H' = H ∧ x = .int (lo + i), fun i _ => n ≤ i⟩
theorem turn_list {P : Program} {w : World} {K : PySem.W.Frag} {tg : Expr} (a it : Addr) : Turn P w K tg (Itl K a) [it] it (fun i h => h.IsListIter it a i) where
  mem := by simp
  obj := fun i h st b hb => by
    have e : b = it := by simpa using hb
    subst e
    obtain ⟨o, e, c, d⟩ := st
    exact ⟨o, e, fun v z => by rw [d] at z; cases z⟩
  keep := fun i h h' st k => st.at fun o e => k it (by simp) o e
  item := by
    intro X hP hw hK hc i pins s σ H E I hf st hg
    subst hP hw hK
    obtain ⟨xs, x, hq, hx⟩ := hg
    obtain ⟨its, rv, p, hz⟩ := I.list hq
    obtain ⟨u, hu, ru⟩ := rv.get hx
    obtain ⟨f0, f1, f2, f3, f4, f5⟩ := hf it (by simp)
    refine wpAny_pyNext_list_item st p.isList (x := u) (by simpa using hu) fun h' st' sb => ?_
    have I1 : Inv X pins σ H { s with heap := h' } := I.turned (t' := s.toks) (fun b o hb e => (sb.2 b hb).trans e) f0 f1 f3 f4 f5
    obtain ⟨o, e, c, d⟩ := id st'
    exact ⟨u, rfl, go_of (s := { s with heap := h' }) e c d (by decide) ⟨x, H, I1, ru, ⟨rfl, fun ys hy => by rw [I.list_inj hy hq]; exact hx⟩, st', fun b hb => (hf b hb).1⟩⟩
  done := by
    intro X hP hw hK hc i pins s σ H E I hf st hg
    subst hP hw hK
    obtain ⟨xs, hq, hx⟩ := hg
    obtain ⟨its, rv, p, hz⟩ := I.list hq
    obtain ⟨f0, f1, f2, f3, f4, f5⟩ := hf it (by simp)
    have hl := rv.length
    exact wpAny_pyNext_list_end (I.ok.hd hc) st p.isList (by simp; omega) fun h' eb => ⟨rfl, I.turned (t' := s.toks) (fun b o hb e => eb b o hb e) f0 f1 f3 f4 f5⟩
  self := fun _ _ _ _ _ st h => wpAny_pyIter_listiter st h
theorem turn_tuple {P : Program} {w : World} {K : PySem.W.Frag} {tg : Expr} (a it : Addr) : Turn P w K tg (Itt K a) [it] it (fun i h => h.IsTupleIter it a i) where
  mem := by simp
  obj := fun i h st b hb => by
    have e : b = it := by simpa using hb
    subst e
    obtain ⟨o, e, c, d⟩ := st
    exact ⟨o, e, fun v z => by rw [d] at z; cases z⟩
  keep := fun i h h' st k => st.at fun o e => k it (by simp) o e
  item := by
    intro X hP hw hK hc i pins s σ H E I hf st hg
    subst hP hw hK
    obtain ⟨xs, x, hq, hx⟩ := hg
    obtain ⟨its, rv, p, hz⟩ := I.tuple hq
    obtain ⟨u, hu, ru⟩ := rv.get hx
    obtain ⟨f0, f1, f2, f3, f4, f5⟩ := hf it (by simp)
    refine wpAny_pyNext_tuple_item st (show s.heap.IsTuple a its.toArray from p) (x := u) (by simpa using hu) fun h' st' sb => ?_
    have I1 : Inv X pins σ H { s with heap := h' } := I.turned (t' := s.toks) (fun b o hb e => (sb.2 b hb).trans e) f0 f1 f3 f4 f5
    obtain ⟨o, e, c, d⟩ := id st'
    exact ⟨u, rfl, go_of (s := { s with heap := h' }) e c d (by decide) ⟨x, H, I1, ru, ⟨rfl, fun ys hy => by rw [I.tuple_inj hy hq]; exact hx⟩, st', fun b hb => (hf b hb).1⟩⟩
  done := by
    intro X hP hw hK hc i pins s σ H E I hf st hg
    subst hP hw hK
    obtain ⟨xs, hq, hx⟩ := hg
    obtain ⟨its, rv, p, hz⟩ := I.tuple hq
    obtain ⟨f0, f1, f2, f3, f4, f5⟩ := hf it (by simp)
    have hl := rv.length
    exact wpAny_pyNext_tuple_end (I.ok.hd hc) st (show s.heap.IsTuple a its.toArray from p) (by simp; omega) fun h' eb => ⟨rfl, I.turned (t' := s.toks) (fun b o hb e => eb b o hb e) f0 f1 f3 f4 f5⟩
  self := fun _ _ _ _ _ st h => wpAny_pyIter_tupleiter st h
theorem turn_range {P : Program} {w : World} {K : PySem.W.Frag} {tg : Expr} (it : Addr) (lo : Int) (n : Nat) : Turn P w K tg (Itr lo n) [it] it (fun i h => IsRangeIter h it (lo + (i : Nat) * 1) ((n : Int) - (i : Nat)) 1) where
  mem := by simp
  obj := fun i h st b hb => by
    have e : b = it := by simpa using hb
    subst e
    exact ⟨_, st, fun v z => by
      have z' : Data.fields _ = Data.cell v := z
      cases z'⟩
  keep := fun i h h' st k => k it (by simp) _ st
  item := by
    intro X hP hw hK hc i pins s σ H E I hf st hg
    subst hP hw hK
    obtain ⟨f0, f1, f2, f3, f4, f5⟩ := hf it (by simp)
    have W := Walks.range (prog := X.prog) (w := X.w) (I.ok.hd hc) it lo 1 n
    refine W.item i s _ _ hg st fun v h' tk hv st' kk => ?_
    obtain ⟨t, rfl⟩ := hv
    have I1 : Inv X pins σ H { s with heap := h', toks := tk } := I.turned (fun b o hb e => kk b o (by simpa using hb) e) f0 f1 f3 f4 f5
    refine ⟨_, rfl, go_of (s := { s with heap := h', toks := tk }) (n := "range_iterator") st' rfl rfl (by decide) ⟨.int (lo + i), H, I1, ⟨t, ?_⟩, ⟨rfl, rfl⟩, st', fun b hb => (hf b hb).1⟩⟩
    rw [Int.mul_one]
  done := by
    intro X hP hw hK hc i pins s σ H E I hf st hg
    subst hP hw hK
    obtain ⟨f0, f1, f2, f3, f4, f5⟩ := hf it (by simp)
    exact wpAny_pyNext_range_end (I.ok.hd hc) st (by have : n ≤ i := hg; omega) fun h' eb => ⟨rfl, I.turned (t' := s.toks) (fun b o hb e => eb b o hb e) f0 f1 f3 f4 f5⟩
  self := fun _ _ _ _ _ st h => wpAny_pyIter_rangeiter st h
end L2

namespace L2
open PySem PySem.Spec PyProof.Rows
section
variable {X : Cx} {tg : Expr}
def iList (K : PySem.W.Frag) (tl : TE) : TI := fun σ H R => tl σ H fun x H1 => ∃ a, x = .ref a ∧ (∃ xs, SqL K H1 a xs) ∧ R (Itl K a) H1
def iTup (K : PySem.W.Frag) (tl : TE) : TI := fun σ H R => tl σ H fun x H1 => ∃ a, x = .ref a ∧ (∃ xs, SqT K H1 a xs) ∧ R (Itt K a) H1
theorem pi_list {l : Expr} {tl : TE} (hl : PE X l tl) : PI X tg l (iList X.K tl) := by
  intro pins s σ H R I h
  refine thn (hl pins s σ H _ I h) fun v s1 ⟨x, H1, I1, r1, q1⟩ => ?_
  obtain ⟨a, e, ⟨xs, hq⟩, q⟩ := q1
  subst e
  cases r1
  obtain ⟨its, rv, p, hz⟩ := I1.list hq
  refine wpAny_pyIter_list p.isList ?_
  refine ⟨s1.heap.objs.size, [s1.heap.objs.size], _, _, H1, rfl, I1.kept (t' := s1.toks) fun b o e => Heap.get?_push_of_some _ e, turn_list a _, ⟨_, Heap.get?_push_size _ rfl, rfl, rfl⟩, fun b hb => ?_, q⟩
  have e : b = s1.heap.objs.size := by simpa using hb
  subst e
  exact I1.fpOk (Nat.le_refl _) (I1.hok.fresh (Nat.le_refl _))
theorem pi_tup {l : Expr} {tl : TE} (hl : PE X l tl) : PI X tg l (iTup X.K tl) := by
  intro pins s σ H R I h
  refine thn (hl pins s σ H _ I h) fun v s1 ⟨x, H1, I1, r1, q1⟩ => ?_
  obtain ⟨a, e, ⟨xs, hq⟩, q⟩ := q1
  subst e
  cases r1
  obtain ⟨its, rv, p, hz⟩ := I1.tuple hq
  refine wpAny_pyIter_tuple (show s1.heap.IsTuple a its.toArray from p) ?_
  refine ⟨s1.heap.objs.size, [s1.heap.objs.size], _, _, H1, rfl, I1.kept (t' := s1.toks) fun b o e => Heap.get?_push_of_some _ e, turn_tuple a _, ⟨_, Heap.get?_push_size _ rfl, rfl, rfl⟩, fun b hb => ?_, q⟩
  have e : b = s1.heap.objs.size := by simpa using hb
  subst e
  exact I1.fpOk (Nat.le_refl _) (I1.hok.fresh (Nat.le_refl _))
/-- a range object just made, walked -/
theorem range_it {pins : List (Addr × Obj)} {σ : St} {H : Hp} {s : Shared} {R : It → Hp → Prop} {E : Value → Shared → Prop} {lo hi : Int} {t u v : Tok} {tk : Nat} (I : Inv X pins σ H s) (h1 : -(2 ^ 62) ≤ lo) (h2 : lo < 2 ^ 62) (h3 : -(2 ^ 62) ≤ hi) (h4 : hi < 2 ^ 62)
    (q : R (Itr lo (hi - lo).toNat) H) : wpAny (model X.prog X.w) X.A (pyIter (.ref s.heap.objs.size)) (PIE X pins σ tg R) E { s with heap := s.heap.push { cls := .type "range", data := .fields #[.int lo t, .int hi u, .int 1 v] }, toks := tk } := by
  refine wpAny_pyIter_range (IsRange.new ..) (small_one h1 h2 h3 h4) ?_
  have I1 : Inv X pins σ H { s with heap := s.heap.push { cls := .type "range", data := .fields #[.int lo t, .int hi u, .int 1 v] }, toks := tk } := I.kept fun b o e => Heap.get?_push_of_some _ e
  refine ⟨(s.heap.push { cls := .type "range", data := .fields #[.int lo t, .int hi u, .int 1 v] }).objs.size, [(s.heap.push { cls := .type "range", data := .fields #[.int lo t, .int hi u, .int 1 v] }).objs.size], _, _, H, rfl,
    I1.kept (t' := tk) fun b o e => Heap.get?_push_of_some _ e, turn_range _ lo (hi - lo).toNat, ?_, fun b hb => ?_, q⟩
  · have e1 : lo + ((0 : Nat) : Int) * 1 = lo := by simp
    have e2 : (((hi - lo).toNat : Nat) : Int) - ((0 : Nat) : Int) = Builtin.Range.rangeSize lo hi 1 := by rw [rangeSize_one]; split <;> omega
    show IsRangeIter _ _ (lo + ((0 : Nat) : Int) * 1) ((((hi - lo).toNat : Nat) : Int) - ((0 : Nat) : Int)) 1
    rw [e1, e2]
    exact Heap.get?_push_size _ rfl
  · have e : b = (s.heap.push { cls := .type "range", data := .fields #[.int lo t, .int hi u, .int 1 v] }).objs.size := by simpa using hb
    subst e
    exact I1.fpOk (Nat.le_refl _) (I1.hok.fresh (Nat.le_refl _))
def iRng1 (ta : TA) : TI := fun σ H R => ta σ H fun vs H1 => ∃ j : Int, vs = [.int j] ∧ -(2 ^ 62) ≤ j ∧ j < 2 ^ 62 ∧ R (Itr 0 j.toNat) H1
def iRng2 (ta : TA) : TI := fun σ H R => ta σ H fun vs H1 => ∃ i j : Int, vs = [.int i, .int j] ∧ (-(2 ^ 62) ≤ i ∧ i < 2 ^ 62 ∧ -(2 ^ 62) ≤ j ∧ j < 2 ^ 62) ∧ R (Itr i (j - i).toNat) H1
theorem pi_range1 {a : Expr} {ta : TA} {p pos : Pos} (hg : Gl X "range") (hm : X.mg "range" = none) (ha : PA X [a] ta) (hs : starEach [a] X.env = [(false, eval a X.env)] := by rfl) : PI X tg (.Call (.Name "range" p) [a] [] pos) (iRng1 ta) := by
  intro pins s σ H R I h
  refine Call_ (ld_blt I hg hm boot_range (PyProof.Rows.callWith_type1 (thn (ha pos pins s σ H _ I h) fun us s1 ⟨vs, H1, I1, r1, q1⟩ => ?_) hs rfl))
  obtain ⟨j, e, q1, q2, q⟩ := q1
  subst e
  cases r1 with
  | cons r rr =>
    cases rr
    obtain ⟨t, rfl⟩ := r
    exact call_range_1 (range_it I1 (by omega) (by omega) q1 q2 (by simpa using q))
theorem pi_range2 {a b : Expr} {ta : TA} {p pos : Pos} (hg : Gl X "range") (hm : X.mg "range" = none) (ha : PA X [a, b] ta) (hs : starEach [a, b] X.env = [(false, eval a X.env), (false, eval b X.env)] := by rfl) (hs2 : starEach [b] X.env = [(false, eval b X.env)] := by rfl) :
    PI X tg (.Call (.Name "range" p) [a, b] [] pos) (iRng2 ta) := by
  intro pins s σ H R I h
  refine Call_ (ld_blt I hg hm boot_range (PyProof.Rows.callWith_type1 (thn (ha pos pins s σ H _ I h) fun us s1 ⟨vs, H1, I1, r1, q1⟩ => ?_) (by rw [hs, hs2]) (by rw [hs2]; rfl)))
  obtain ⟨i, j, e, ⟨q1, q2, q3, q4⟩, q⟩ := q1
  subst e
  cases r1 with
  | cons r rr =>
    cases rr with
    | cons r' rr =>
      cases rr
      obtain ⟨t, rfl⟩ := r
      obtain ⟨t', rfl⟩ := r'
      exact call_range_2 (range_it I1 q1 q2 q3 q4 q)

/-! ### for -/
/-- W: the invariant by the turn and a measure; N: what the body is to reach -/
def tFor (wi : TI) (g : TG) (tb : TS) : TS := fun D σ H => wi σ H fun J H1 => ∃ W : Nat → Nat → St → Hp → Prop, (∃ m, W 0 m σ H1) ∧ ∀ i m σ H, W i m σ H →
  (J.stop i H ∧ D.nx σ H) ∨ (J.go i H ∧ ∃ N : St → Hp → Prop, (∀ σ' H', N σ' H' → ∃ m', m' < m ∧ W (i + 1) m' σ' H') ∧ ∀ x H', J.yld i H x H' → g x σ H' fun σ2 H2 => tb { D with nx := N, ct := N, bk := D.nx } σ2 H2)
/-- the records at fp as they stand -/
def pinsAt (fp : List Addr) (h : Heap) : List (Addr × Obj) := fp.filterMap fun b => (h.get? b).map fun o => (b, o)
theorem mem_pinsAt {fp : List Addr} {h : Heap} {b : Addr} {o : Obj} (hb : b ∈ fp) (e : h.get? b = some o) : (b, o) ∈ pinsAt fp h := List.mem_filterMap.mpr ⟨b, hb, by rw [e]; rfl⟩
theorem of_pinsAt {fp : List Addr} {h : Heap} {p : Addr × Obj} (hp : p ∈ pinsAt fp h) : p.1 ∈ fp ∧ h.get? p.1 = some p.2 := by
  obtain ⟨b, hb, e⟩ := List.mem_filterMap.mp hp
  cases q : h.get? b with
  | none => rw [q] at e; cases e
  | some o =>
    rw [q] at e
    have e' : (b, o) = p := Option.some.inj e
    subst e'
    exact ⟨hb, q⟩
theorem Inv.pinned {pins : List (Addr × Obj)} {σ : St} {H : Hp} {s : Shared} {fp : List Addr} (I : Inv X pins σ H s) (hf : ∀ b ∈ fp, FpOk X pins H b) (ho : ∀ b ∈ fp, ∃ o, s.heap.get? b = some o ∧ ∀ v, o.data ≠ .cell v) : Inv X (pins ++ pinsAt fp s.heap) σ H s :=
  I.pins_of fun p hp => (List.mem_append.mp hp).elim (fun z => I.pin p (List.mem_append_right _ z)) fun z => by
    obtain ⟨hb, e⟩ := of_pinsAt z
    obtain ⟨f0, f1, f2, _⟩ := hf p.1 hb
    obtain ⟨o, e', d⟩ := ho p.1 hb
    rw [e] at e'; cases e'
    exact ⟨e, f0, f1, f2, d⟩
theorem Inv.unpinned {pins pl : List (Addr × Obj)} {σ : St} {H : Hp} {s : Shared} (I : Inv X (pins ++ pl) σ H s) : Inv X pins σ H s := I.pins_of fun p hp => I.pin p (List.mem_append_right _ (List.mem_append_left _ hp))
theorem ps_for {iter : Expr} {body : List Stmt} {wi : TI} {g : TG} {tb : TS} {pos : Pos} (hp : PassesOwn (model X.prog X.w) X.A X.env X.xe) (hc : X.calm = true) (hi : PI X tg iter wi) (hg : PG X tg g) (hb : PSs X body tb)
    (hs : ∀ x, foldedSetIterable iter X.env x = pure x := by intro _; rfl) : PS X (.For tg iter body [] pos) (tFor wi g tb) := by
  intro pins s σ H D I h
  refine wpAny_For (thn (hi pins s σ H _ I h) fun v s1 h1 => thn h1 fun itv s2 h2 => ?_) hs
  obtain ⟨it, fp, tn, J, H2, e, I2, T, st2, f2, W, ⟨m0, w0⟩, turn⟩ := h2
  subst e
  -- what stays true of the iterator's objects through the loop
  have stat : ∀ {H' : Hp}, (∀ b ∈ fp, H' b = none) → ∀ b ∈ fp, FpOk X pins H' b := fun hn b hb => ⟨hn b hb, (f2 b hb).2⟩
  refine codeAny_forLoop_any (fun n s' => ∃ i σ' H', Inv X pins σ' H' s' ∧ tn i s'.heap ∧ (∀ b ∈ fp, H' b = none) ∧ W i n σ' H') ?_ m0 ⟨0, σ, H2, I2, st2, fun b hb => (f2 b hb).1, w0⟩
  rintro n s3 ⟨i, σ3, H3, I3, st3, fr3, w3⟩
  rcases turn i n σ3 H3 w3 with ⟨stop, qn⟩ | ⟨go, N, hN, step⟩
  · refine wpAny_passesOwn hp (thn (T.done X rfl rfl rfl hc i pins s3 σ3 H3 X.xe I3 (stat fr3) st3 stop) fun r s4 ⟨hr, I4⟩ => ?_)
    subst hr
    exact wpAny_execs_nil ⟨σ3, H3, I4, qn⟩
  · refine wpAny_passesOwn hp (thn (T.item X rfl rfl rfl hc i pins s3 σ3 H3 X.xe I3 (stat fr3) st3 go) fun r s4 ⟨u, hr, h4⟩ => ?_)
    subst hr
    refine wpAny_passesOwn hp (thn h4 fun _ s5 ⟨x, H5, I5, r5, y5, st5, fr5⟩ => ?_)
    have I5' := I5.pinned (stat fr5) (T.obj _ _ st5)
    refine wpAny_passesOwn hp (thn (hg _ s5 σ3 H5 x u _ I5' r5 (step x H5 y5)) fun _ s6 ⟨σ6, H6, I6, q6⟩ => ?_)
    refine wpAny_passesOwn hp (thn (hb _ s6 σ6 H6 _ I6 q6) fun f s7 q7 => ?_)
    have again : ∀ {σ7 : St} {H7 : Hp}, Inv X (pins ++ pinsAt fp s5.heap) σ7 H7 s7 → N σ7 H7 → ∃ m, m < n ∧ ∃ i σ' H', Inv X pins σ' H' s7 ∧ tn i s7.heap ∧ (∀ b ∈ fp, H' b = none) ∧ W i m σ' H' := fun {σ7 H7} I7 n7 => by
      obtain ⟨m', hm, w7⟩ := hN σ7 H7 n7
      refine ⟨m', hm, i + 1, σ7, H7, I7.unpinned, T.keep _ _ _ st5 fun b hb o e => (I7.pin (b, o) (List.mem_append_right _ (List.mem_append_right _ (mem_pinsAt hb e)))).1, fun b hb => ?_, w7⟩
      obtain ⟨o, e, d⟩ := T.obj _ _ st5 b hb
      exact (I7.pin (b, o) (List.mem_append_right _ (List.mem_append_right _ (mem_pinsAt hb e)))).2.1
    cases f with
    | next => obtain ⟨σ7, H7, I7, n7⟩ := q7; exact again I7 n7
    | cont => obtain ⟨σ7, H7, I7, n7⟩ := q7; exact again I7 n7
    | brk => obtain ⟨σ7, H7, I7, q7⟩ := q7; exact ⟨σ7, H7, I7.unpinned, q7⟩
    | ret v => obtain ⟨x7, σ7, H7, I7, r7, q7⟩ := q7; exact ⟨x7, σ7, H7, I7.unpinned, r7, q7⟩
end

/-! ### the forms one uses -/
/-- over a list that the body leaves as it is -/
theorem for_list {K : PySem.W.Frag} {a : Addr} {xs : List V} {g : TG} {tb : TS} {D : Ends} {σ : St} {H : Hp} (Pv : Nat → St → Hp → Prop) (h0 : Pv 0 σ H) (hl : ∀ i σ H, i ≤ xs.length → Pv i σ H → SqL K H a xs)
    (hs : ∀ i x σ H, xs[i]? = some x → Pv i σ H → g x σ H fun σ2 H2 => tb { D with nx := Pv (i + 1), ct := Pv (i + 1), bk := D.nx } σ2 H2) (hd : ∀ σ H, Pv xs.length σ H → D.nx σ H) :
    ∃ W : Nat → Nat → St → Hp → Prop, (∃ m, W 0 m σ H) ∧ ∀ i m σ H, W i m σ H →
      ((Itl K a).stop i H ∧ D.nx σ H) ∨ ((Itl K a).go i H ∧ ∃ N : St → Hp → Prop, (∀ σ' H', N σ' H' → ∃ m', m' < m ∧ W (i + 1) m' σ' H') ∧ ∀ x H', (Itl K a).yld i H x H' → g x σ H' fun σ2 H2 => tb { D with nx := N, ct := N, bk := D.nx } σ2 H2) := by
  refine ⟨fun i m σ H => m = xs.length - i ∧ i ≤ xs.length ∧ Pv i σ H, ⟨xs.length, by simp, Nat.zero_le _, h0⟩, ?_⟩
  rintro i m σ H ⟨rfl, hi, p⟩
  have q := hl i σ H hi p
  by_cases hlt : i < xs.length
  · refine .inr ⟨⟨xs, xs[i], q, by simp [hlt]⟩, Pv (i + 1), fun σ' H' p' => ⟨xs.length - (i + 1), by omega, rfl, hlt, p'⟩, fun x H' y => ?_⟩
    obtain ⟨e, y⟩ := y
    subst e
    exact hs i x σ _ (y xs q) p
  · have e : i = xs.length := by omega
    subst e
    exact .inl ⟨⟨xs, q, Nat.le_refl _⟩, hd σ H p⟩
theorem for_tup {K : PySem.W.Frag} {a : Addr} {xs : List V} {g : TG} {tb : TS} {D : Ends} {σ : St} {H : Hp} (Pv : Nat → St → Hp → Prop) (h0 : Pv 0 σ H) (hl : ∀ i σ H, i ≤ xs.length → Pv i σ H → SqT K H a xs)
    (hs : ∀ i x σ H, xs[i]? = some x → Pv i σ H → g x σ H fun σ2 H2 => tb { D with nx := Pv (i + 1), ct := Pv (i + 1), bk := D.nx } σ2 H2) (hd : ∀ σ H, Pv xs.length σ H → D.nx σ H) :
    ∃ W : Nat → Nat → St → Hp → Prop, (∃ m, W 0 m σ H) ∧ ∀ i m σ H, W i m σ H →
      ((Itt K a).stop i H ∧ D.nx σ H) ∨ ((Itt K a).go i H ∧ ∃ N : St → Hp → Prop, (∀ σ' H', N σ' H' → ∃ m', m' < m ∧ W (i + 1) m' σ' H') ∧ ∀ x H', (Itt K a).yld i H x H' → g x σ H' fun σ2 H2 => tb { D with nx := N, ct := N, bk := D.nx } σ2 H2) := by
  refine ⟨fun i m σ H => m = xs.length - i ∧ i ≤ xs.length ∧ Pv i σ H, ⟨xs.length, by simp, Nat.zero_le _, h0⟩, ?_⟩
  rintro i m σ H ⟨rfl, hi, p⟩
  have q := hl i σ H hi p
  by_cases hlt : i < xs.length
  · refine .inr ⟨⟨xs, xs[i], q, by simp [hlt]⟩, Pv (i + 1), fun σ' H' p' => ⟨xs.length - (i + 1), by omega, rfl, hlt, p'⟩, fun x H' y => ?_⟩
    obtain ⟨e, y⟩ := y
    subst e
    exact hs i x σ _ (y xs q) p
  · have e : i = xs.length := by omega
    subst e
    exact .inl ⟨⟨xs, q, Nat.le_refl _⟩, hd σ H p⟩
theorem for_range {lo : Int} {n : Nat} {g : TG} {tb : TS} {D : Ends} {σ : St} {H : Hp} (Pv : Nat → St → Hp → Prop) (h0 : Pv 0 σ H)
    (hs : ∀ i σ H, i < n → Pv i σ H → g (.int (lo + i)) σ H fun σ2 H2 => tb { D with nx := Pv (i + 1), ct := Pv (i + 1), bk := D.nx } σ2 H2) (hd : ∀ σ H, Pv n σ H → D.nx σ H) :
    ∃ W : Nat → Nat → St → Hp → Prop, (∃ m, W 0 m σ H) ∧ ∀ i m σ H, W i m σ H →
      ((Itr lo n).stop i H ∧ D.nx σ H) ∨ ((Itr lo n).go i H ∧ ∃ N : St → Hp → Prop, (∀ σ' H', N σ' H' → ∃ m', m' < m ∧ W (i + 1) m' σ' H') ∧ ∀ x H', (Itr lo n).yld i H x H' → g x σ H' fun σ2 H2 => tb { D with nx := N, ct := N, bk := D.nx } σ2 H2) := by
  refine ⟨fun i m σ H => m = n - i ∧ i ≤ n ∧ Pv i σ H, ⟨n, by simp, Nat.zero_le _, h0⟩, ?_⟩
  rintro i m σ H ⟨rfl, hi, p⟩
  by_cases hlt : i < n
  · refine .inr ⟨hlt, Pv (i + 1), fun σ' H' p' => ⟨n - (i + 1), by omega, rfl, hlt, p'⟩, fun x H' y => ?_⟩
    obtain ⟨e, y⟩ := y
    subst e y
    exact hs i σ _ hlt p
  · have e : i = n := by omega
    subst e
    exact .inl ⟨Nat.le_refl _, hd σ H p⟩
/-- while, by a word and a measure of the state -/
theorem while_by {c : TT} {tb : TS} {D : Ends} {σ : St} {H : Hp} (Pv : St → Hp → Prop) (μ : St → Hp → Nat) (h0 : Pv σ H)
    (hs : ∀ σ H, Pv σ H → c σ H fun b H1 => if b = true then tb { D with nx := fun σ' H' => Pv σ' H' ∧ μ σ' H' < μ σ H, ct := fun σ' H' => Pv σ' H' ∧ μ σ' H' < μ σ H, bk := D.nx } σ H1 else D.nx σ H1)
    (mono : ∀ σ H Q Q', (∀ b H1, Q b H1 → Q' b H1) → c σ H Q → c σ H Q') : tWhile c tb D σ H := by
  refine ⟨fun m σ H => m = μ σ H ∧ Pv σ H, ⟨_, rfl, h0⟩, ?_⟩
  rintro m σ H ⟨rfl, p⟩
  refine mono σ H _ _ (fun b H1 q => ?_) (hs σ H p)
  cases b with
  | true => exact ⟨_, fun σ' H' ⟨p', l⟩ => ⟨_, l, rfl, p'⟩, q⟩
  | false => exact q
end L2

namespace L2
open PySem PySem.Spec PyProof.Rows

abbrev R2 := V → V → Hp → VK → Prop
/-- a two-place operation on values: f is binaryOp op, inplaceOp op or compareOp op -/
def OpR (X : Cx) (f : Value → Value → Sem Value) (r : R2) : Prop :=
  ∀ (pins : List (Addr × Obj)) (s : Shared) (σ : St) (H : Hp) (x y : V) (v u : Value) (Q : VK), Inv X pins σ H s → RelV x v → RelV y u → r x y H Q →
    wpAny (model X.prog X.w) X.A (f v u) (EP X pins σ Q) X.xe s
/-- a one-place operation -/
def UnR (X : Cx) (f : Value → Sem Value) (r : V → Hp → VK → Prop) : Prop :=
  ∀ (pins : List (Addr × Obj)) (s : Shared) (σ : St) (H : Hp) (x : V) (v : Value) (Q : VK), Inv X pins σ H s → RelV x v → r x H Q →
    wpAny (model X.prog X.w) X.A (f v) (EP X pins σ Q) X.xe s
/-- a call of a value that is known (a builtin, a type) with values -/
def CallR (X : Cx) (f : Value) (r : List V → Hp → VK → Prop) : Prop :=
  ∀ (pins : List (Addr × Obj)) (s : Shared) (σ : St) (H : Hp) (xs : List V) (us : List Value) (Q : VK), Inv X pins σ H s → Vals xs us → r xs H Q →
    wpAny (model X.prog X.w) X.A (call f us) (EP X pins σ Q) X.xe s
/-- a value's truth -/
def TruR (X : Cx) (r : V → Hp → (Bool → Hp → Prop) → Prop) : Prop :=
  ∀ (pins : List (Addr × Obj)) (s : Shared) (σ : St) (H : Hp) (x : V) (v : Value) (Q : Bool → Hp → Prop), Inv X pins σ H s → RelV x v → r x H Q →
    wpAny (model X.prog X.w) X.A (truthy v) (TP X pins σ Q) X.xe s

def tOp (r : R2) (ta tb : TE) : TE := fun σ H Q => ta σ H fun x H1 => tb σ H1 fun y H2 => r x y H2 Q
def tUn (r : V → Hp → VK → Prop) (ta : TE) : TE := fun σ H Q => ta σ H fun x H1 => r x H1 Q
/-- ints in, under C, and a value out -/
def rI (C : Int → Int → Prop) (g : Int → Int → V) : R2 := fun x y H Q => ∃ i j, x = .int i ∧ y = .int j ∧ C i j ∧ Q (g i j) H
def rI0 (g : Int → Int → V) : R2 := fun x y H Q => ∃ i j, x = .int i ∧ y = .int j ∧ Q (g i j) H
def rU (g : Int → V) : V → Hp → VK → Prop := fun x H Q => ∃ i, x = .int i ∧ Q (g i) H

section
variable {X : Cx} {a b c : Expr} {ta tb tc : TE} {pos : Pos}

theorem binT (ha : PE X a ta) (hb : PE X b tb) {pins : List (Addr × Obj)} {s : Shared} {σ : St} {H : Hp} {R : V → V → Hp → Prop} (I : Inv X pins σ H s)
    (h : ta σ H fun x H1 => tb σ H1 fun y H2 => R x y H2) {Q : Value → Shared → Prop} {f : Value → Value → Sem Value}
    (hf : ∀ v u s2 x y H2, Inv X pins σ H2 s2 → RelV x v → RelV y u → R x y H2 → wpAny (model X.prog X.w) X.A (f v u) Q X.xe s2) :
    wpAny (model X.prog X.w) X.A (eval a X.env) (fun v s₁ => wpAny (model X.prog X.w) X.A (eval b X.env) (fun u s₂ => wpAny (model X.prog X.w) X.A (f v u) Q X.xe s₂) X.xe s₁) X.xe s := by
  refine thn (ha pins s σ H _ I h) fun v s1 ⟨x, H1, I1, r1, q1⟩ => ?_
  refine thn (hb pins s1 σ H1 _ I1 q1) fun u s2 ⟨y, H2, I2, r2, q2⟩ => ?_
  exact hf v u s2 x y H2 I2 r1 r2 q2

theorem pe_op {op : Operator} {r : R2} (ho : OpR X (binaryOp op) r) (ha : PE X a ta) (hb : PE X b tb) : PE X (.BinOp a op b pos) (tOp r ta tb) := by
  intro pins s σ H Q I h
  exact wpAny_BinOp (binT ha hb I h fun v u s2 x y H2 I2 rx ry q => ho pins s2 σ H2 x y v u Q I2 rx ry q)
theorem pe_un {op : UnaryOp} {r : V → Hp → VK → Prop} (ho : UnR X (unaryOp op) r) (ha : PE X a ta) : PE X (.UnaryOp op a pos) (tUn r ta) := by
  intro pins s σ H Q I h
  exact UnaryOp_ (thn (ha pins s σ H _ I h) fun v s1 ⟨x, H1, I1, r1, q1⟩ => ho pins s1 σ H1 x v Q I1 r1 q1)
/-- a op= e at a name: the name's slot i -/
theorem augR {op : Operator} {r : R2} (ho : OpR X (inplaceOp op) r) {pins : List (Addr × Obj)} {s : Shared} {σ : St} {H : Hp} {x y : V} {v u : Value} {Q : VK} (I : Inv X pins σ H s)
    (rx : RelV x v) (ry : RelV y u) (q : r x y H Q) : wpAny (model X.prog X.w) X.A (inplaceOp op v u) (EP X pins σ Q) X.xe s := ho pins s σ H x y v u Q I rx ry q

/-! ### ints -/
theorem opI {f : Value → Value → Sem Value} {C : Int → Int → Prop} {g : Int → Int → Int}
    (rule : ∀ (i j : Int) (t u : Tok) (s : Shared) (Q : Value → Shared → Prop) (E : Value → Shared → Prop), C i j → Q (.int (g i j) s.toks) { s with toks := s.toks + 1 } → wpAny (model X.prog X.w) X.A (f (.int i t) (.int j u)) Q E s) :
    OpR X f (rI C fun i j => .int (g i j)) := by
  intro pins s σ H x y v u Q I rx ry h
  obtain ⟨i, j, rfl, rfl, hc, q⟩ := h
  obtain ⟨t, rfl⟩ := rx
  obtain ⟨t', rfl⟩ := ry
  exact rule i j t t' s _ _ hc ⟨.int (g i j), H, I.tok _, ⟨_, rfl⟩, q⟩
theorem opI0 {f : Value → Value → Sem Value} {g : Int → Int → Int}
    (rule : ∀ (i j : Int) (t u : Tok) (s : Shared) (Q : Value → Shared → Prop) (E : Value → Shared → Prop), Q (.int (g i j) s.toks) { s with toks := s.toks + 1 } → wpAny (model X.prog X.w) X.A (f (.int i t) (.int j u)) Q E s) :
    OpR X f (rI0 fun i j => .int (g i j)) := by
  intro pins s σ H x y v u Q I rx ry h
  obtain ⟨i, j, rfl, rfl, q⟩ := h
  obtain ⟨t, rfl⟩ := rx
  obtain ⟨t', rfl⟩ := ry
  exact rule i j t t' s _ _ ⟨.int (g i j), H, I.tok _, ⟨_, rfl⟩, q⟩
theorem opB0 {f : Value → Value → Sem Value} {g : Int → Int → Bool}
    (rule : ∀ (i j : Int) (t u : Tok) (s : Shared) (Q : Value → Shared → Prop) (E : Value → Shared → Prop), Q (.bool (g i j)) s → wpAny (model X.prog X.w) X.A (f (.int i t) (.int j u)) Q E s) :
    OpR X f (rI0 fun i j => .bl (g i j)) := by
  intro pins s σ H x y v u Q I rx ry h
  obtain ⟨i, j, rfl, rfl, q⟩ := h
  obtain ⟨t, rfl⟩ := rx
  obtain ⟨t', rfl⟩ := ry
  exact rule i j t t' s _ _ ⟨.bl (g i j), H, I, rfl, q⟩

def CDiv (i j : Int) : Prop := 0 < j ∧ j < 1073741824
def CDivN (i j : Int) : Prop := j ≠ 0 ∧ j.natAbs < 1073741824
def CPow (i j : Int) : Prop := 0 ≤ j ∧ j ≤ 1000000 ∧ i.natAbs < 2 ^ 64
def CMul (i j : Int) : Prop := (-(2 ^ 64) < i ∧ i < 2 ^ 64) ∨ (-(2 ^ 64) < j ∧ j < 2 ^ 64)
theorem CMul.ok {i j : Int} (h : CMul i j) : IntMulOk i j := by
  rcases h with ⟨h1, h2⟩ | ⟨h1, h2⟩
  · exact .of_left (intBits_le_64 h1 h2)
  · exact .of_right (intBits_le_64 h1 h2)
theorem two_pow_nn (k : Nat) : (0 : Int) ≤ 2 ^ k := by
  rw [two_pow_cast]
  exact Int.natCast_nonneg _

theorem op_add : OpR X (binaryOp .Add) (rI0 fun i j => .int (i + j)) := opI0 fun _ _ _ _ _ _ _ q => add_int q
theorem op_sub : OpR X (binaryOp .Sub) (rI0 fun i j => .int (i - j)) := opI0 fun _ _ _ _ _ _ _ q => sub_int q
theorem op_mul : OpR X (binaryOp .Mult) (rI CMul fun i j => .int (i * j)) := opI fun _ _ _ _ _ _ _ hc q => mul_int q hc.ok
/-- // by a positive divisor -/
theorem op_fdiv : OpR X (binaryOp .FloorDiv) (rI CDiv fun i j => .int (i / j)) := opI fun i j _ _ _ _ _ hc q => by
  have h1 : (0 : Int) < j := hc.1
  have h2 : j < 1073741824 := hc.2
  exact floordiv_int (by omega) (by rw [Int.fdiv_eq_ediv_of_nonneg i (by omega)]; exact q) (.inl (PyProof.noPylong_small (by omega)))
theorem op_fdivN : OpR X (binaryOp .FloorDiv) (rI CDivN fun i j => .int (i.fdiv j)) := opI fun _ _ _ _ _ _ _ hc q => floordiv_int hc.1 q (.inl (PyProof.noPylong_small hc.2))
/-- % by a positive divisor of any size -/
theorem op_mod : OpR X (binaryOp .Mod) (rI (fun _ j => 0 < j) fun i j => .int (i % j)) := opI fun i j _ _ _ _ _ hc q => by
  have h1 : (0 : Int) < j := hc
  exact mod_int' (by omega) (by rw [Int.fmod_eq_emod_of_nonneg i (by omega)]; exact q)
theorem op_modN : OpR X (binaryOp .Mod) (rI (fun _ j => j ≠ 0) fun i j => .int (i.fmod j)) := opI fun _ _ _ _ _ _ _ hc q => mod_int' hc q
theorem op_pow : OpR X (binaryOp .Pow) (rI CPow fun i j => .int (i ^ j.toNat)) := opI fun _ _ _ _ _ _ _ hc q => pow_int_small hc.1 hc.2.1 hc.2.2 q
theorem op_shl : OpR X (binaryOp .LShift) (rI CPow fun i j => .int (i * 2 ^ j.toNat)) := opI fun _ _ _ _ _ _ _ hc q => lshift_int_small hc.1 hc.2.1 hc.2.2 q
theorem op_shr : OpR X (binaryOp .RShift) (rI (fun _ j => 0 ≤ j) fun i j => .int (i / 2 ^ j.toNat)) := opI fun i j _ _ _ _ _ hc q =>
  rshift_int hc (by rw [Int.fdiv_eq_ediv_of_nonneg i (two_pow_nn _)]; exact q)
theorem op_and : OpR X (binaryOp .BitAnd) (rI0 fun i j => .int (Builtin.bitAnd i j)) := opI0 fun _ _ _ _ _ _ _ q => and_int q
theorem op_or : OpR X (binaryOp .BitOr) (rI0 fun i j => .int (Builtin.bitOr i j)) := opI0 fun _ _ _ _ _ _ _ q => or_int q
theorem op_xor : OpR X (binaryOp .BitXor) (rI0 fun i j => .int (Builtin.bitXor i j)) := opI0 fun _ _ _ _ _ _ _ q => xor_int q

theorem iop_add : OpR X (inplaceOp .Add) (rI0 fun i j => .int (i + j)) := opI0 fun _ _ _ _ _ _ _ q => iadd_int q
theorem iop_sub : OpR X (inplaceOp .Sub) (rI0 fun i j => .int (i - j)) := opI0 fun _ _ _ _ _ _ _ q => isub_int q
theorem iop_mul : OpR X (inplaceOp .Mult) (rI CMul fun i j => .int (i * j)) := opI fun _ _ _ _ _ _ _ hc q => imul_int q hc.ok
theorem iop_fdiv : OpR X (inplaceOp .FloorDiv) (rI CDiv fun i j => .int (i / j)) := opI fun i j _ _ _ _ _ hc q => by
  have h1 : (0 : Int) < j := hc.1
  have h2 : j < 1073741824 := hc.2
  exact ifloordiv_int (by omega) (by rw [Int.fdiv_eq_ediv_of_nonneg i (by omega)]; exact q) (.inl (PyProof.noPylong_small (by omega)))
theorem iop_mod : OpR X (inplaceOp .Mod) (rI (fun _ j => 0 < j) fun i j => .int (i % j)) := opI fun i j _ _ _ _ _ hc q => by
  have h1 : (0 : Int) < j := hc
  exact imod_int (by omega) (by rw [Int.fmod_eq_emod_of_nonneg i (by omega)]; exact q)
theorem iop_shl : OpR X (inplaceOp .LShift) (rI CPow fun i j => .int (i * 2 ^ j.toNat)) := opI fun _ _ _ _ _ _ _ hc q => ilshift_int_small hc.1 hc.2.1 hc.2.2 q
theorem iop_shr : OpR X (inplaceOp .RShift) (rI (fun _ j => 0 ≤ j) fun i j => .int (i / 2 ^ j.toNat)) := opI fun i j _ _ _ _ _ hc q =>
  irshift_int hc (by rw [Int.fdiv_eq_ediv_of_nonneg i (two_pow_nn _)]; exact q)
theorem iop_and : OpR X (inplaceOp .BitAnd) (rI0 fun i j => .int (Builtin.bitAnd i j)) := opI0 fun _ _ _ _ _ _ _ q => iand_int q
theorem iop_or : OpR X (inplaceOp .BitOr) (rI0 fun i j => .int (Builtin.bitOr i j)) := opI0 fun _ _ _ _ _ _ _ q => ior_int q
theorem iop_xor : OpR X (inplaceOp .BitXor) (rI0 fun i j => .int (Builtin.bitXor i j)) := opI0 fun _ _ _ _ _ _ _ q => ixor_int q

theorem unI {f : Value → Sem Value} {g : Int → Int}
    (rule : ∀ (i : Int) (t : Tok) (s : Shared) (Q : Value → Shared → Prop) (E : Value → Shared → Prop), Q (.int (g i) s.toks) { s with toks := s.toks + 1 } → wpAny (model X.prog X.w) X.A (f (.int i t)) Q E s) :
    UnR X f (rU fun i => .int (g i)) := by
  intro pins s σ H x v Q I rx h
  obtain ⟨i, rfl, q⟩ := h
  obtain ⟨t, rfl⟩ := rx
  exact rule i t s _ _ ⟨.int (g i), H, I.tok _, ⟨_, rfl⟩, q⟩
theorem un_neg : UnR X (unaryOp .USub) (rU fun i => .int (-i)) := unI fun _ _ _ _ _ q => neg_int q
theorem un_inv : UnR X (unaryOp .Invert) (rU fun i => .int (Builtin.bitNot i)) := unI fun _ _ _ _ _ q => invert_int q

/-! ### bools among ints: n += (a < b) -/
theorem op_add_ib : OpR X (binaryOp .Add) (fun x y H Q => ∃ i k, x = .int i ∧ y = .bl k ∧ Q (.int (i + b2i k)) H) := by
  intro pins s σ H x y v u Q I rx ry h
  obtain ⟨i, k, rfl, rfl, q⟩ := h
  obtain ⟨t, rfl⟩ := rx
  cases ry
  exact add_int_bool ⟨.int (i + b2i k), H, I.tok _, ⟨_, rfl⟩, q⟩
end

/-! ### comparisons -/
/-- the scalars that == tells apart as data does -/
def scal : V → V → Bool
  | .non, .non => true | .non, .int _ => true | .int _, .non => true | .non, .bl _ => true | .bl _, .non => true | .non, .str _ => true | .str _, .non => true
  | .int _, .int _ => true | .bl _, .bl _ => true | .str _, .str _ => true | .byt _, .byt _ => true
  | .int _, .str _ => true | .str _, .int _ => true | .bl _, .str _ => true | .str _, .bl _ => true
  | _, _ => false
def rEq : R2 := fun x y H Q => scal x y = true ∧ Q (.bl (decide (x = y))) H
def rNe : R2 := fun x y H Q => scal x y = true ∧ Q (.bl (!decide (x = y))) H

theorem dec_int {i j : Int} : decide (V.int i = V.int j) = (i == j) := by
  rw [Bool.eq_iff_iff]
  simp
theorem dec_bl {i j : Bool} : decide (V.bl i = V.bl j) = (i == j) := by
  rw [Bool.eq_iff_iff]
  simp
theorem dec_str {i j : Str} : decide (V.str i = V.str j) = (i == j) := by
  rw [Bool.eq_iff_iff]
  simp
theorem dec_byt {i j : Array UInt8} : decide (V.byt i = V.byt j) = (i.toList == j.toList) := by
  rw [Bool.eq_iff_iff]
  cases i
  cases j
  simp

section
variable {X : Cx} {a b c : Expr} {ta tb tc : TE} {pos : Pos}
theorem fin_bl {pins : List (Addr × Obj)} {σ : St} {H : Hp} {s : Shared} {Q : VK} {k k' : Bool} (I : Inv X pins σ H s) (q : Q (.bl k) H) (e : k = k') : EP X pins σ Q (.bool k') s := by
  subst e
  exact ⟨.bl k, H, I, rfl, q⟩
theorem op_eq : OpR X (compareOp .Eq) rEq := by
  intro pins s σ H x y v u Q I rx ry h
  obtain ⟨hs, q⟩ := h
  cases x with
  | non =>
    cases rx
    cases y with
    | non => cases ry; exact PySem.EqNone.eq_none_none (fin_bl I q (by simp))
    | bl j => cases ry; exact PySem.EqNone.eq_none_bool (fin_bl I q (by simp))
    | int j => obtain ⟨t', rfl⟩ := ry; exact PySem.EqNone.eq_none_int (fin_bl I q (by simp))
    | str j => obtain ⟨t', rfl⟩ := ry; exact PySem.EqNone.eq_none_str (fin_bl I q (by simp))
    | _ => exact absurd (show false = true from hs) Bool.false_ne_true
  | bl i =>
    cases rx
    cases y with
    | non => cases ry; exact PySem.EqNone.eq_bool_none (fin_bl I q (by simp))
    | bl j => cases ry; exact eq_bool (fin_bl I q dec_bl)
    | str j => obtain ⟨t', rfl⟩ := ry; exact PySem.EqMixed.eq_bool_str (fin_bl I q (by simp))
    | _ => exact absurd (show false = true from hs) Bool.false_ne_true
  | int i =>
    obtain ⟨t, rfl⟩ := rx
    cases y with
    | non => cases ry; exact PySem.EqNone.eq_int_none (fin_bl I q (by simp))
    | int j => obtain ⟨t', rfl⟩ := ry; exact eq_int (fin_bl I q dec_int)
    | str j => obtain ⟨t', rfl⟩ := ry; exact PySem.EqMixed.eq_int_str (fin_bl I q (by simp))
    | _ => exact absurd (show false = true from hs) Bool.false_ne_true
  | str i =>
    obtain ⟨t, rfl⟩ := rx
    cases y with
    | non => cases ry; exact PySem.EqNone.eq_str_none (fin_bl I q (by simp))
    | bl j => cases ry; exact PySem.EqMixed.eq_str_bool (fin_bl I q (by simp))
    | int j => obtain ⟨t', rfl⟩ := ry; exact PySem.EqMixed.eq_str_int (fin_bl I q (by simp))
    | str j => obtain ⟨t', rfl⟩ := ry; exact eq_str (fin_bl I q dec_str)
    | _ => exact absurd (show false = true from hs) Bool.false_ne_true
  | byt i =>
    obtain ⟨t, rfl⟩ := rx
    cases y with
    | byt j => obtain ⟨t', rfl⟩ := ry; exact PySem.W.eq_bytes (fin_bl I q dec_byt)
    | _ => exact absurd (show false = true from hs) Bool.false_ne_true
  | _ => cases y <;> exact absurd (show false = true from hs) Bool.false_ne_true
theorem op_ne : OpR X (compareOp .NotEq) rNe := by
  intro pins s σ H x y v u Q I rx ry h
  obtain ⟨hs, q⟩ := h
  cases x with
  | non =>
    cases rx
    cases y with
    | non => cases ry; exact PySem.EqNone.ne_none_none (fin_bl I q (by simp))
    | bl j => cases ry; exact PySem.EqNone.ne_none_bool (fin_bl I q (by simp))
    | int j => obtain ⟨t', rfl⟩ := ry; exact PySem.EqNone.ne_none_int (fin_bl I q (by simp))
    | str j => obtain ⟨t', rfl⟩ := ry; exact PySem.EqNone.ne_none_str (fin_bl I q (by simp))
    | _ => exact absurd (show false = true from hs) Bool.false_ne_true
  | bl i =>
    cases rx
    cases y with
    | non => cases ry; exact PySem.EqNone.ne_bool_none (fin_bl I q (by simp))
    | bl j => cases ry; exact ne_bool (fin_bl I q (congrArg not dec_bl))
    | str j => obtain ⟨t', rfl⟩ := ry; exact PySem.EqMixed.ne_bool_str (fin_bl I q (by simp))
    | _ => exact absurd (show false = true from hs) Bool.false_ne_true
  | int i =>
    obtain ⟨t, rfl⟩ := rx
    cases y with
    | non => cases ry; exact PySem.EqNone.ne_int_none (fin_bl I q (by simp))
    | int j => obtain ⟨t', rfl⟩ := ry; exact ne_int (fin_bl I q (congrArg not dec_int))
    | str j => obtain ⟨t', rfl⟩ := ry; exact PySem.EqMixed.ne_int_str (fin_bl I q (by simp))
    | _ => exact absurd (show false = true from hs) Bool.false_ne_true
  | str i =>
    obtain ⟨t, rfl⟩ := rx
    cases y with
    | non => cases ry; exact PySem.EqNone.ne_str_none (fin_bl I q (by simp))
    | bl j => cases ry; exact PySem.EqMixed.ne_str_bool (fin_bl I q (by simp))
    | int j => obtain ⟨t', rfl⟩ := ry; exact PySem.EqMixed.ne_str_int (fin_bl I q (by simp))
    | str j => obtain ⟨t', rfl⟩ := ry; exact ne_str (fin_bl I q (congrArg not dec_str))
    | _ => exact absurd (show false = true from hs) Bool.false_ne_true
  | byt i =>
    obtain ⟨t, rfl⟩ := rx
    cases y with
    | byt j => obtain ⟨t', rfl⟩ := ry; exact PySem.W.ne_bytes (fin_bl I q (congrArg not dec_byt))
    | _ => exact absurd (show false = true from hs) Bool.false_ne_true
  | _ => cases y <;> exact absurd (show false = true from hs) Bool.false_ne_true

theorem op_lt : OpR X (compareOp .Lt) (rI0 fun i j => .bl (decide (i < j))) := opB0 fun _ _ _ _ _ _ _ q => lt_int q
theorem op_le : OpR X (compareOp .LtE) (rI0 fun i j => .bl (decide (i ≤ j))) := opB0 fun _ _ _ _ _ _ _ q => le_int q
theorem op_gt : OpR X (compareOp .Gt) (rI0 fun i j => .bl (decide (j < i))) := opB0 fun _ _ _ _ _ _ _ q => gt_int q
theorem op_ge : OpR X (compareOp .GtE) (rI0 fun i j => .bl (decide (j ≤ i))) := opB0 fun _ _ _ _ _ _ _ q => ge_int q
theorem op_lt_str : OpR X (compareOp .Lt) (fun x y H Q => ∃ i j, x = .str i ∧ y = .str j ∧ Q (.bl (decide (i.cps.toList < j.cps.toList))) H) := by
  intro pins s σ H x y v u Q I rx ry h
  obtain ⟨i, j, rfl, rfl, q⟩ := h
  obtain ⟨t, rfl⟩ := rx
  obtain ⟨t', rfl⟩ := ry
  exact lt_str (fin_bl I q rfl)
/-- the one string within the other -/
theorem op_in_str : OpR X (compareOp .In) (fun x y H Q => ∃ i j, x = .str i ∧ y = .str j ∧ Q (.bl (!(Builtin.Str.occurrences j i 0 j.length 1).isEmpty)) H) := by
  intro pins s σ H x y v u Q I rx ry h
  obtain ⟨i, j, rfl, rfl, q⟩ := h
  obtain ⟨t, rfl⟩ := rx
  obtain ⟨t', rfl⟩ := ry
  exact in_str (fin_bl I q rfl)

/-- is None, is not None: the right side a value none -/
theorem op_isN : OpR X (compareOp .Is) (fun x y H Q => y = .non ∧ Q (.bl (decide (x = .non))) H) := by
  intro pins s σ H x y v u Q I rx ry h
  obtain ⟨rfl, q⟩ := h
  cases ry
  refine is_none_gen (fin_bl I q ?_)
  cases x <;> first
    | (cases rx; rfl)
    | (obtain ⟨t, rfl⟩ := rx; rfl)
theorem op_notN : OpR X (compareOp .IsNot) (fun x y H Q => y = .non ∧ Q (.bl (!decide (x = .non))) H) := by
  intro pins s σ H x y v u Q I rx ry h
  obtain ⟨rfl, q⟩ := h
  cases ry
  refine isnot_none_gen (fin_bl I q ?_)
  cases x <;> first
    | (cases rx; rfl)
    | (obtain ⟨t, rfl⟩ := rx; rfl)

theorem op_notin_str : OpR X (compareOp .NotIn) (fun x y H Q => ∃ i j, x = .str i ∧ y = .str j ∧ Q (.bl (!(!(Builtin.Str.occurrences j i 0 j.length 1).isEmpty))) H) := by
  intro pins s σ H x y v u Q I rx ry h
  obtain ⟨i, j, rfl, rfl, q⟩ := h
  obtain ⟨t, rfl⟩ := rx
  obtain ⟨t', rfl⟩ := ry
  exact notIn_str (fin_bl I q rfl)
/-- is, is not of two objects that are tracked lists or instances -/
def isObj : HO → Bool
  | .lst _ => true
  | .ins _ _ _ => true
  | _ => false
theorem obj_there {pins : List (Addr × Obj)} {s : Shared} {σ : St} {H : Hp} {a : Addr} {o : HO} (I : Inv X pins σ H s) (h : H a = some o) (p : isObj o = true) : ∃ ob, s.heap.get? a = some ob ∧ ob.cls ≠ .type "tuple" := by
  cases o with
  | lst xs =>
    obtain ⟨_, its, n, _, e⟩ : xs.length ≤ sizeLine ∧ ∃ (its : List Value) (n : Nat), Vals xs its ∧ s.heap.get? a = some { cls := .type "list", data := .seq its.toArray n } := I.hok a _ h
    exact ⟨_, e, (by show Value.type "list" ≠ .type "tuple"; decide +kernel)⟩
  | ins C dx fs =>
    have x := I.hok a _ h
    obtain ⟨_, _, _, e, _⟩ := x
    exact ⟨_, e, (by show Value.ref C ≠ .type "tuple"; exact fun z => by cases z)⟩
  | _ => exact absurd (show false = true from p) Bool.false_ne_true
theorem op_is_ref : OpR X (compareOp .Is) (fun x y H Q => ∃ a b oa ob, x = .ref a ∧ y = .ref b ∧ H a = some oa ∧ isObj oa = true ∧ H b = some ob ∧ isObj ob = true ∧ Q (.bl (decide (a = b))) H) := by
  intro pins s σ H x y v u Q I rx ry h
  obtain ⟨a, b, oa, ob, rfl, rfl, ha, pa, hb, pb, q⟩ := h
  cases rx
  cases ry
  obtain ⟨o1, e1, n1⟩ := obj_there I ha pa
  obtain ⟨o2, e2, _⟩ := obj_there I hb pb
  by_cases z : a = b
  · subst z
    exact wpAny_is_ref_self (fin_bl I q (by simp))
  · exact wpAny_is_ref_other z e1 e2 n1 (fin_bl I q (by simp [z]))
theorem op_isnot_ref : OpR X (compareOp .IsNot) (fun x y H Q => ∃ a b oa ob, x = .ref a ∧ y = .ref b ∧ H a = some oa ∧ isObj oa = true ∧ H b = some ob ∧ isObj ob = true ∧ Q (.bl (!decide (a = b))) H) := by
  intro pins s σ H x y v u Q I rx ry h
  obtain ⟨a, b, oa, ob, rfl, rfl, ha, pa, hb, pb, q⟩ := h
  cases rx
  cases ry
  obtain ⟨o1, e1, n1⟩ := obj_there I ha pa
  obtain ⟨o2, e2, _⟩ := obj_there I hb pb
  by_cases z : a = b
  · subst z
    exact wpAny_isNot_ref_self (fin_bl I q (by simp))
  · exact wpAny_isNot_ref_other z e1 e2 n1 (fin_bl I q (by simp [z]))

/-- two rules for one operation: by cases -/
theorem OpR.or {f : Value → Value → Sem Value} {r r' : R2} (h : OpR X f r) (h' : OpR X f r') : OpR X f (fun x y H Q => r x y H Q ∨ r' x y H Q) := by
  intro pins s σ H x y v u Q I rx ry q
  rcases q with q | q
  · exact h pins s σ H x y v u Q I rx ry q
  · exact h' pins s σ H x y v u Q I rx ry q

theorem nomark (b : Expr) {op : CmpOp} (h : op ≠ .In := by decide) (h2 : op ≠ .NotIn := by decide) : behindInMarks op b = false := by
  have e1 : (op == CmpOp.In) = false := by cases op <;> first | rfl | exact absurd rfl h
  have e2 : (op == CmpOp.NotIn) = false := by cases op <;> first | rfl | exact absurd rfl h2
  cases b <;> simp [behindInMarks, e1, e2]
/-- a comparison as a value; hm: nomark b, or (for in, not in) by with_unfolding_all rfl -/
theorem pe_cmpR {op : CmpOp} {r : R2} (ho : OpR X (compareOp op) r) (ha : PE X a ta) (hb : PE X b tb) (hm : behindInMarks op b = false) : PE X (.Compare a [op] [b] pos) (tOp r ta tb) := by
  intro pins s σ H Q I h
  exact wpAny_Compare1 (binT ha hb I h fun v u s2 x y H2 I2 rx ry q => ho pins s2 σ H2 x y v u Q I2 rx ry q) hm
/-- a reading of a value as a test -/
def tTest (t : TE) : TT := fun σ H Q => t σ H fun x H' => ∃ k, x = .bl k ∧ Q k H'
theorem pt_cmpR {op : CmpOp} {r : R2} (ho : OpR X (compareOp op) r) (ha : PE X a ta) (hb : PE X b tb) (hm : behindInMarks op b = false) : PT X (.Compare a [op] [b] pos) (tTest (tOp r ta tb)) := by
  intro pins s σ H Q I h
  refine wpAny_isTrue_Compare1 (thn (ha pins s σ H _ I h) fun v s1 ⟨x, H1, I1, r1, q1⟩ => thn (hb pins s1 σ H1 _ I1 q1) fun u s2 ⟨y, H2, I2, r2, q2⟩ =>
    thn (ho pins s2 σ H2 x y v u _ I2 r1 r2 q2) fun c s3 ⟨z, H3, I3, r3, k, e, q3⟩ => ?_) hm
  subst e
  cases r3
  exact wpAny_truthy_bool ⟨H3, I3, q3⟩
/-- a op1 b op2 c -/
def tChain (r r' : R2) (ta tb tc : TE) : TE := fun σ H Q => ta σ H fun x H1 => tb σ H1 fun y H2 => r x y H2 fun z H3 => ∃ k, z = .bl k ∧
  (if k = true then tc σ H3 fun w' H4 => r' y w' H4 Q else Q (.bl false) H3)
theorem pe_chain {op op' : CmpOp} {r r' : R2} (ho : OpR X (compareOp op) r) (ho' : OpR X (compareOp op') r') (ha : PE X a ta) (hb : PE X b tb) (hc : PE X c tc)
    (hm : lastMarks [op, op'] [b, c] = false := by with_unfolding_all rfl) : PE X (.Compare a [op, op'] [b, c] pos) (tChain r r' ta tb tc) := by
  intro pins s σ H Q I h
  refine Compare_chain (thn (ha pins s σ H _ I h) fun v s1 ⟨x, H1, I1, r1, q1⟩ => chain_link (thn (hb pins s1 σ H1 _ I1 q1) fun u s2 ⟨y, H2, I2, r2, q2⟩ =>
    thn (ho pins s2 σ H2 x y v u _ I2 r1 r2 q2) fun d s3 ⟨z, H3, I3, r3, k, e, q3⟩ => ?_)) hm
  subst e
  cases r3
  refine wpAny_truthy_bool ?_
  cases k with
  | false => exact ite_ff ⟨.bl false, H3, I3, rfl, q3⟩
  | true => exact ite_tt (chain_last (thn (hc pins s3 σ H3 _ I3 q3) fun w' s4 ⟨z', H4, I4, r4, q4⟩ => ho' pins s4 σ H4 y z' u w' Q I4 r2 r4 q4))
theorem pt_chain {op op' : CmpOp} {r r' : R2} (ho : OpR X (compareOp op) r) (ho' : OpR X (compareOp op') r') (ha : PE X a ta) (hb : PE X b tb) (hc : PE X c tc)
    (hm : lastMarks [op, op'] [b, c] = false := by with_unfolding_all rfl) : PT X (.Compare a [op, op'] [b, c] pos) (tTest (tChain r r' ta tb tc)) := by
  intro pins s σ H Q I h
  refine isTrue_chain (thn (ha pins s σ H _ I h) fun v s1 ⟨x, H1, I1, r1, q1⟩ => test_link (thn (hb pins s1 σ H1 _ I1 q1) fun u s2 ⟨y, H2, I2, r2, q2⟩ =>
    thn (ho pins s2 σ H2 x y v u _ I2 r1 r2 q2) fun d s3 ⟨z, H3, I3, r3, k, e, q3⟩ => ?_)) hm
  subst e
  cases r3
  refine wpAny_truthy_bool ?_
  cases k with
  | false =>
    obtain ⟨k', e', q'⟩ := q3
    cases e'
    exact ite_ff ⟨H3, I3, q'⟩
  | true =>
    refine ite_tt (test_last (thn (hc pins s3 σ H3 _ I3 q3) fun w' s4 ⟨z', H4, I4, r4, q4⟩ => thn (ho' pins s4 σ H4 y z' u w' _ I4 r2 r4 q4) fun d' s5 ⟨z2, H5, I5, r5, k2, e2, q5⟩ => ?_))
    subst e2
    cases r5
    exact wpAny_truthy_bool ⟨H5, I5, q5⟩

/-! ### truth -/
/-- a value's truth by the abstract heap -/
def TruV (K : PySem.W.Frag) (x : V) (H : Hp) (k : Bool) : Prop :=
  match x with
  | .non => k = false
  | .bl b => k = b
  | .int i => k = (i != 0)
  | .str y => y.length ≤ sizeLine ∧ k = ((y.length : Int) != 0)
  | .byt y => y.size ≤ sizeLine ∧ k = ((y.size : Int) != 0)
  | .ref p => (∃ xs, SqL K H p xs ∧ k = !xs.isEmpty) ∨ (∃ xs, SqT K H p xs ∧ k = !xs.isEmpty) ∨ ∃ kvs, H p = some (.dK kvs) ∧ k = !kvs.isEmpty
  | _ => False
theorem isEmpty_kv {κ : Type} {kvs : List (κ × V)} {vs : List (κ × Value)} (r : KV kvs vs) : (!vs.isEmpty) = !kvs.isEmpty := by
  cases r <;> rfl
theorem isEmpty_of {xs : List V} {its : List Value} (r : Vals xs its) : (!its.toArray.isEmpty) = !xs.isEmpty := by
  cases r <;> simp
theorem line63 : (sizeLine : Nat) < 2 ^ 63 := by rw [sizeLine_eq]; decide
theorem tru_ok : TruR X (fun x H Q => ∃ k, TruV X.K x H k ∧ Q k H) := by
  intro pins s σ H x v Q I rx h
  obtain ⟨k, e, q⟩ := h
  have hl := line63
  have hs : sizeLine = 16777216 := sizeLine_eq
  cases x with
  | non =>
    cases rx
    have e' : k = false := e
    subst e'
    exact truthy_none ⟨H, I, q⟩
  | bl b =>
    cases rx
    have e' : k = b := e
    subst e'
    exact wpAny_truthy_bool ⟨H, I, q⟩
  | int i =>
    obtain ⟨t, rfl⟩ := rx
    have e' : k = (i != 0) := e
    subst e'
    exact PySem.P.truthy_int ⟨H, I, q⟩
  | str y =>
    obtain ⟨t, rfl⟩ := rx
    obtain ⟨hy, e'⟩ : y.length ≤ sizeLine ∧ k = ((y.length : Int) != 0) := e
    subst e'
    exact PySem.P.truthy_str (by omega) ⟨H, I.tok _, q⟩
  | byt y =>
    obtain ⟨t, rfl⟩ := rx
    obtain ⟨hy, e'⟩ : y.size ≤ sizeLine ∧ k = ((y.size : Int) != 0) := e
    subst e'
    exact PySem.W.truthy_bytes (by omega) ⟨H, I.tok _, q⟩
  | ref p =>
    cases rx
    have e' : (∃ xs, SqL X.K H p xs ∧ k = !xs.isEmpty) ∨ (∃ xs, SqT X.K H p xs ∧ k = !xs.isEmpty) ∨ ∃ kvs, H p = some (.dK kvs) ∧ k = !kvs.isEmpty := e
    rcases e' with ⟨xs, hx, e'⟩ | ⟨xs, hx, e'⟩ | ⟨kvs, hx, e'⟩
    · subst e'
      obtain ⟨its, r, pl, hz⟩ := I.list hx
      have hlen := r.length
      exact wpAny_truthy_list pl.isList (by simp only [List.size_toArray]; omega) ⟨H, I.tok _, by rw [isEmpty_of r]; exact q⟩
    · subst e'
      obtain ⟨its, r, pl, hz⟩ := I.tuple hx
      have hlen := r.length
      exact truthy_tuple pl (by simp only [List.size_toArray]; omega) ⟨H, I.tok _, by rw [isEmpty_of r]; exact q⟩
    · subst e'
      obtain ⟨hz, hS, vs, r, m⟩ : kvs.length ≤ sizeLine ∧ (p == sysModules) = false ∧ ∃ vs, KV kvs vs ∧ s.heap.DictOf (mixKind X.prog X.w) p vs := I.hok p _ hx
      have hlen : kvs.length = vs.length := Paired.length r
      exact wpAny_truthy_dict hS m (by omega) ⟨H, I.tok _, by rw [isEmpty_kv r]; exact q⟩
  | _ => exact (show False from e).elim
/-- any expression whose test is its value's truth (a name, a call, a subscript, a field ..: he by fun _ => rfl) -/
theorem pt_truth (ha : PE X a ta) (he : ∀ whole, isTrue a X.env whole = (do let v ← whole; standAt a.pos; holding [v] (truthy v))) :
    PT X a (fun σ H Q => ta σ H fun x H' => ∃ k, TruV X.K x H' k ∧ Q k H') := by
  intro pins s σ H Q I h
  exact isTrue_plain (thn (ha pins s σ H _ I h) fun v s1 ⟨x, H1, I1, r1, q1⟩ => tru_ok pins s1 σ H1 x v Q I1 r1 q1) (he _)

/-! ### strs and bytes -/
theorem pe_byt {x : List UInt8} {k : Nat} : PE X (.Constant (.bytes x) k pos) (fun _ H Q => Q (.byt x.toArray) H) := fun _ _ _ H _ I h => PySem.W.Constant_bytes ⟨.byt x.toArray, H, I.tok _, ⟨_, rfl⟩, h⟩
theorem op_add_str : OpR X (binaryOp .Add) (fun x y H Q => ∃ i j, x = .str i ∧ y = .str j ∧ i.length + j.length ≤ sizeLine ∧ Q (.str (i ++ j)) H) := by
  intro pins s σ H x y v u Q I rx ry h
  obtain ⟨i, j, rfl, rfl, hz, q⟩ := h
  obtain ⟨t, rfl⟩ := rx
  obtain ⟨t', rfl⟩ := ry
  exact add_str (fun t' tk => ⟨.str (i ++ j), H, I.tok _, ⟨_, rfl⟩, q⟩) hz
theorem iop_add_str : OpR X (inplaceOp .Add) (fun x y H Q => ∃ i j, x = .str i ∧ y = .str j ∧ i.length + j.length ≤ sizeLine ∧ Q (.str (i ++ j)) H) := by
  intro pins s σ H x y v u Q I rx ry h
  obtain ⟨i, j, rfl, rfl, hz, q⟩ := h
  obtain ⟨t, rfl⟩ := rx
  obtain ⟨t', rfl⟩ := ry
  exact iadd_str (fun t' tk => ⟨.str (i ++ j), H, I.tok _, ⟨_, rfl⟩, q⟩) hz
theorem op_add_byt : OpR X (binaryOp .Add) (fun x y H Q => ∃ i j, x = .byt i ∧ y = .byt j ∧ i.size + j.size ≤ 16777216 ∧ Q (.byt (i ++ j)) H) := by
  intro pins s σ H x y v u Q I rx ry h
  obtain ⟨i, j, rfl, rfl, hz, q⟩ := h
  obtain ⟨t, rfl⟩ := rx
  obtain ⟨t', rfl⟩ := ry
  exact PySem.W.KBy.add_bytes hz (fun t' tk => ⟨.byt (i ++ j), H, I.tok _, ⟨_, rfl⟩, q⟩)

def PlainIxT (b : Expr) : Prop := ∀ o i, subscripted b false o i = operate [o, i] (getItem o i)
/-- s[i], 0 ≤ i < len -/
theorem pe_item_str (ha : PE X a ta) (hb : PE X b tb) (hs : PlainIxT b) :
    PE X (.Subscript a b pos) (tOp (fun x y H Q => ∃ z i c, x = .str z ∧ y = .int i ∧ 0 ≤ i ∧ i < 2 ^ 63 ∧ i < z.length ∧ z.cps[i.toNat]? = some c ∧ Q (.str ⟨#[c]⟩) H) ta tb) := by
  intro pins s σ H Q I h
  refine Subscript_ (binT ha hb I h fun v u s2 x y H2 I2 rx ry q => ?_)
  obtain ⟨z, i, c, rfl, rfl, h0, h63, h1, hc, q⟩ := q
  obtain ⟨t, rfl⟩ := rx
  obtain ⟨t', rfl⟩ := ry
  have e : seqIndex? i z.length = some i.toNat := PySem.StrLaws.seqIndex_nonneg h0 h1
  exact tail_any (typeIs_str s2 z t) slot_str_getitem.lookup (getItem_str (c := c) (by
    have e1 : decide (i < -(2 ^ 63 : Int)) = false := decide_eq_false (by omega)
    have e2 : decide (i ≥ 2 ^ 63) = false := decide_eq_false (by omega)
    rw [e1, e2] <;> rfl) (by rw [e]; exact hc) ⟨.str ⟨#[c]⟩, H2, I2.tok _, ⟨_, rfl⟩, q⟩) (hs _ _)
/-- b[i], 0 ≤ i < len -/
theorem pe_item_byt (ha : PE X a ta) (hb : PE X b tb) (hs : PlainIxT b) :
    PE X (.Subscript a b pos) (tOp (fun x y H Q => ∃ (z : List UInt8) (i : Int), x = .byt z.toArray ∧ y = .int i ∧ z.length ≤ sizeLine ∧ 0 ≤ i ∧ i < z.length ∧ Q (.int ((z.getD i.toNat 0).toNat : Nat)) H) ta tb) := by
  intro pins s σ H Q I h
  refine Subscript_ (binT ha hb I h fun v u s2 x y H2 I2 rx ry q => ?_)
  obtain ⟨z, i, rfl, rfl, hz, h0, h1, q⟩ := q
  obtain ⟨t, rfl⟩ := rx
  obtain ⟨t', rfl⟩ := ry
  have hl : sizeLine = 16777216 := sizeLine_eq
  exact tail_any (PySem.W.typeIs_bytes s2 z.toArray t) PySem.W.FB.slot_bytes_getitem.lookup (PySem.W.getItem_bytes (by omega) h0 h1 ⟨.int ((z.getD i.toNat 0).toNat : Nat), H2, I2.tok _, ⟨_, rfl⟩, q⟩) (hs _ _)

/-! ### scalar builtins, by CallR -/
theorem vals1 {x : V} {us : List Value} (r : Vals [x] us) : ∃ u, us = [u] ∧ RelV x u := by
  cases r with
  | cons r1 r2 => cases r2; exact ⟨_, rfl, r1⟩
theorem vals2 {x y : V} {us : List Value} (r : Vals [x, y] us) : ∃ u w', us = [u, w'] ∧ RelV x u ∧ RelV y w' := by
  cases r with
  | cons r1 r2 =>
    cases r2 with
    | cons r3 r4 => cases r4; exact ⟨_, _, rfl, r1, r3⟩
theorem call_abs : CallR X (.builtin "abs") (fun xs H Q => ∃ i, xs = [.int i] ∧ Q (.int (if i < 0 then -i else i)) H) := by
  intro pins s σ H xs us Q I r h
  obtain ⟨i, rfl, q⟩ := h
  obtain ⟨u, rfl, t, rfl⟩ := vals1 r
  exact call_abs_int fun u tk => ⟨.int (if i < 0 then -i else i), H, I.tok _, ⟨_, rfl⟩, q⟩
theorem call_max2 (hc : X.calm = true) : CallR X (.builtin "max") (fun xs H Q => ∃ i j, xs = [.int i, .int j] ∧ Q (.int (if j > i then j else i)) H) := by
  intro pins s σ H xs us Q I r h
  obtain ⟨i, j, rfl, q⟩ := h
  obtain ⟨u, w', rfl, ⟨t, rfl⟩, ⟨t', rfl⟩⟩ := vals2 r
  refine max_two_ints (I.ok.hd hc) fun h' tk k => ⟨_, H, I.kept k, ?_, q⟩
  by_cases hj : j > i
  · rw [if_pos hj, if_pos hj]; exact ⟨_, rfl⟩
  · rw [if_neg hj, if_neg hj]; exact ⟨_, rfl⟩
theorem call_min2 (hc : X.calm = true) : CallR X (.builtin "min") (fun xs H Q => ∃ i j, xs = [.int i, .int j] ∧ Q (.int (if j < i then j else i)) H) := by
  intro pins s σ H xs us Q I r h
  obtain ⟨i, j, rfl, q⟩ := h
  obtain ⟨u, w', rfl, ⟨t, rfl⟩, ⟨t', rfl⟩⟩ := vals2 r
  refine min_two_ints (I.ok.hd hc) fun h' tk k => ⟨_, H, I.kept k, ?_, q⟩
  by_cases hj : j < i
  · rw [if_pos hj, if_pos hj]; exact ⟨_, rfl⟩
  · rw [if_neg hj, if_neg hj]; exact ⟨_, rfl⟩
theorem call_int1 : CallR X (.type "int") (fun xs H Q => (∃ i, xs = [.int i] ∧ Q (.int i) H) ∨ ∃ k, xs = [.bl k] ∧ Q (.int (if k then 1 else 0)) H) := by
  intro pins s σ H xs us Q I r h
  rcases h with ⟨i, rfl, q⟩ | ⟨k, rfl, q⟩
  · obtain ⟨u, rfl, t, rfl⟩ := vals1 r
    exact call_int_int ⟨.int i, H, I, ⟨_, rfl⟩, q⟩
  · obtain ⟨u, rfl, r1⟩ := vals1 r
    cases r1
    exact call_int_bool ⟨.int (if k then 1 else 0), H, I.tok _, ⟨_, rfl⟩, q⟩
theorem call_bool1 : CallR X (.type "bool") (fun xs H Q => (∃ i, xs = [.int i] ∧ Q (.bl (i != 0)) H) ∨ ∃ k, xs = [.bl k] ∧ Q (.bl k) H) := by
  intro pins s σ H xs us Q I r h
  rcases h with ⟨i, rfl, q⟩ | ⟨k, rfl, q⟩
  · obtain ⟨u, rfl, t, rfl⟩ := vals1 r
    exact call_bool_int ⟨.bl (i != 0), H, I, rfl, q⟩
  · obtain ⟨u, rfl, r1⟩ := vals1 r
    cases r1
    exact call_bool_bool ⟨.bl k, H, I, rfl, q⟩
theorem call_str_int : CallR X (.type "str") (fun xs H Q => ∃ i, xs = [.int i] ∧ i.natAbs.log2 < 1920 ∧ Q (.str (toString i)) H) := by
  intro pins s σ H xs us Q I r h
  obtain ⟨i, rfl, hz, q⟩ := h
  obtain ⟨u, rfl, t, rfl⟩ := vals1 r
  exact PySem.P.str_of_int hz ⟨.str _, H, I.tok _, ⟨_, rfl⟩, q⟩
theorem call_ord : CallR X (.builtin "ord") (fun xs H Q => ∃ x, xs = [.str x] ∧ x.length = 1 ∧ Q (.int (x.cps.getD 0 0 : Nat)) H) := by
  intro pins s σ H xs us Q I r h
  obtain ⟨x, rfl, hz, q⟩ := h
  obtain ⟨u, rfl, t, rfl⟩ := vals1 r
  exact ord_of_one hz ⟨.int _, H, I.tok _, ⟨_, rfl⟩, q⟩
theorem call_chr : CallR X (.builtin "chr") (fun xs H Q => ∃ i, xs = [.int i] ∧ 0 ≤ i ∧ i ≤ 1114111 ∧ Q (.str ⟨#[i.toNat]⟩) H) := by
  intro pins s σ H xs us Q I r h
  obtain ⟨i, rfl, h0, h1, q⟩ := h
  obtain ⟨u, rfl, t, rfl⟩ := vals1 r
  exact chr_of_range h0 h1 ⟨.str _, H, I.tok _, ⟨_, rfl⟩, q⟩
/-- len of a str, a bytes, a list, a tuple -/
def LenV (K : PySem.W.Frag) (x : V) (H : Hp) (n : Nat) : Prop :=
  match x with
  | .str y => y.length ≤ sizeLine ∧ n = y.length
  | .byt y => y.size ≤ sizeLine ∧ n = y.size
  | .ref p => (∃ xs, SqL K H p xs ∧ n = xs.length) ∨ ∃ xs, SqT K H p xs ∧ n = xs.length
  | _ => False
theorem call_len : CallR X (.builtin "len") (fun xs H Q => ∃ x n, xs = [x] ∧ LenV X.K x H n ∧ Q (.int n) H) := by
  intro pins s σ H xs us Q I r h
  obtain ⟨x, n, rfl, e, q⟩ := h
  obtain ⟨u, rfl, rx⟩ := vals1 r
  have hl := line63
  have hs : sizeLine = 16777216 := sizeLine_eq
  cases x with
  | str y =>
    obtain ⟨t, rfl⟩ := rx
    obtain ⟨hy, e'⟩ : y.length ≤ sizeLine ∧ n = y.length := e
    subst e'
    exact len_str (by omega) ⟨.int _, H, I.tok _, ⟨_, rfl⟩, q⟩
  | byt y =>
    obtain ⟨t, rfl⟩ := rx
    obtain ⟨hy, e'⟩ : y.size ≤ sizeLine ∧ n = y.size := e
    subst e'
    exact PySem.W.len_bytes (by omega) ⟨.int _, H, I.tok _, ⟨_, rfl⟩, q⟩
  | ref p =>
    cases rx
    have e' : (∃ xs, SqL X.K H p xs ∧ n = xs.length) ∨ ∃ xs, SqT X.K H p xs ∧ n = xs.length := e
    rcases e' with ⟨xs, hx, e'⟩ | ⟨xs, hx, e'⟩
    · subst e'
      obtain ⟨its, r', pl, hz⟩ := I.list hx
      have hlen := r'.length
      exact Calls.call_len_list pl.isList (by simp only [List.size_toArray]; omega) ⟨.int xs.length, H, I.tok _, ⟨_, by simp only [List.size_toArray]; rw [hlen]⟩, q⟩
    · subst e'
      obtain ⟨its, r', pl, hz⟩ := I.tuple hx
      have hlen := r'.length
      exact len_tuple pl (by simp only [List.size_toArray]; omega) ⟨.int xs.length, H, I.tok _, ⟨_, by simp only [List.size_toArray]; rw [hlen]⟩, q⟩
  | _ => exact (show False from e).elim
/-- divmod: a new tuple -/
theorem call_divmod : CallR X (.builtin "divmod") (fun xs H Q => ∃ i j, xs = [.int i, .int j] ∧ CDiv i j ∧ ∀ p, H p = none → Q (.ref p) (upd H p (.tup [.int (i / j), .int (i % j)]))) := by
  intro pins s σ H xs us Q I r h
  obtain ⟨i, j, rfl, ⟨h1, h2⟩, q⟩ := h
  obtain ⟨u, w', rfl, ⟨t, rfl⟩, ⟨t', rfl⟩⟩ := vals2 r
  refine divmod_int (by omega) ?_ (.inl (PyProof.noPylong_small (by omega)))
  rw [Int.fdiv_eq_ediv_of_nonneg i (by omega), Int.fmod_eq_emod_of_nonneg i (by omega)]
  have hn : H s.heap.objs.size = none := I.hok.fresh (Nat.le_refl _)
  refine ⟨.ref s.heap.objs.size, _, ?_, rfl, q _ hn⟩
  refine I.laid (fun b o e => Heap.get?_push_of_some _ e) (Nat.le_refl _) ⟨by simp only [List.length_cons, List.length_nil]; rw [sizeLine_eq]; decide, [.int (i / j) s.toks, .int (i % j) (s.toks + 1)], .cons ⟨_, rfl⟩ (.cons ⟨_, rfl⟩ .nil), ?_⟩
  exact ⟨_, Heap.get?_push_size s.heap rfl, rfl, 0, rfl⟩
end
end L2

namespace L2
open PySem PySem.Spec PyProof.Rows

/-! ### an instance, its attributes a map -/
structure ObjM (h : Heap) (x dx C : Addr) (mA : Str → Option Value) : Prop where
  obj : h.get? x = some (PySem.W.instObj C dx)
  ns : h.Ns1 dx mA
  ne : dx ≠ x

theorem lookIn_ns {h : Heap} {dx : Addr} {mA : Str → Option Value} (n : h.Ns1 dx mA) : ∃ od, h.get? dx = some od ∧ ∀ name, PySem.W.lookIn name od = some (mA name) := by
  obtain ⟨o, es, ep, ho, hd, hk, _, hm⟩ := n
  refine ⟨o, ho, fun name => ?_⟩
  have e := hm name
  unfold nsFind findBy at e
  rw [← Array.find?_toList] at e
  unfold PySem.W.lookIn
  rw [hd]
  dsimp only
  split
  · rename_i y q
    rw [q] at e
    exact congrArg some e
  · rename_i q
    rw [q] at e
    have a : es.toList.any (·.refKey) = false := by
      rw [List.any_eq_false]
      intro y hy
      obtain ⟨z, t, hkey⟩ := hk y (Array.mem_toList_iff.mp hy)
      simp [DictEntry.refKey, hkey]
    have a' : ¬ es.toList.any (·.refKey) = true := by rw [a]; exact Bool.false_ne_true
    rw [if_neg a']
    exact congrArg some e

theorem ObjM.look {h : Heap} {x dx C : Addr} {mA : Str → Option Value} (I : ObjM h x dx C mA) : ∃ od, PySem.W.InstAt h x (PySem.W.instObj C dx) C (some od) ∧ ∀ name, PySem.W.lookIn name od = some (mA name) :=
  let ⟨od, ho, hl⟩ := lookIn_ns I.ns
  ⟨od, ⟨I.obj, rfl, rfl, ho⟩, hl⟩

section
variable {prog : Program} {w : World} {A : Around} {E : Value → Shared → Prop} {s : Shared} {K : PySem.W.Frag} {x dx C f : Addr} {mA : Str → Option Value} {name : Str} {v : Value}

theorem get_map {expr : Bool} {Q : Value → Shared → Prop} (X : K.In s.heap) (I : ObjM s.heap x dx C mA) (hg : PySem.W.plainGet K C name = true) (hh : PySem.W.hasDictIn K C = true)
    (ha : PySem.W.findIn K (.ref C) name = some none) (hv : mA name = some v) (hv' : PySem.W.handedIn v = true) (h : Q v { s with toks := s.toks + 1 }) :
    wpAny (model prog w) A (getAttr (.ref x) name expr) Q E s := by
  obtain ⟨od, J, hl⟩ := I.look
  exact PySem.W.get_value X J (PySem.W.plainGet_of hg).1 (PySem.W.findObj_own hh ha rfl (by rw [hl, hv])) hv' h

theorem get_const {expr : Bool} {a : Value} {Q : Value → Shared → Prop} (X : K.In s.heap) (I : ObjM s.heap x dx C mA) (hg : PySem.W.plainGet K C name = true) (hh : PySem.W.hasDictIn K C = true)
    (ha : PySem.W.findIn K (.ref C) name = some (some a)) (hn : PySem.W.specialIn K a "__get__" = some none) (hc : PySem.W.copiedNames.contains name = false) (hv : mA name = none) (hv' : PySem.W.handedIn a = true)
    (h : Q a { s with toks := s.toks + 1 }) : wpAny (model prog w) A (getAttr (.ref x) name expr) Q E s := by
  obtain ⟨od, J, hl⟩ := I.look
  exact PySem.W.get_value X J (PySem.W.plainGet_of hg).1 (PySem.W.findObj_cls hh ha hn hv' hc (by rw [hl, hv])) hv' h

theorem get_meth {pl : Sem Bool} {Q : Value × List Value → Shared → Prop} (X : K.In s.heap) (I : ObjM s.heap x dx C mA) (hg : PySem.W.plainGet K C name = true)
    (hf : PySem.W.findIn K (.ref C) name = some (some (.ref f))) (ht : PySem.W.isFn K (.ref f) = true) (hv : mA name = none) (h : Q (.ref f, [.ref x]) s) :
    wpAny (model prog w) A (getMethod (.ref x) name pl) Q E s := by
  obtain ⟨od, J, hl⟩ := I.look
  exact PySem.W.method_fn X J (PySem.W.plainGet_of hg).1 (PySem.W.plainGet_of hg).2 hf (beq_iff_eq.mp ht) (by show (PySem.W.lookIn name od).map (·.isSome) = some false; rw [hl, hv]; rfl) h

theorem set_map {ns : List Str} {Q : Unit → Shared → Prop} (X : K.In s.heap) (I : ObjM s.heap x dx C mA)
    (hs : PySem.W.findIn K (.ref C) "__setattr__" = some (some (.builtin "object.__setattr__"))) (hp : PySem.W.plainOver K C = true) (ht : PySem.W.takerIn K C name = some none) (hh : PySem.W.hasDictIn K C = true)
    (hw : PySem.Within mA ns) (hsz : ns.length ≤ sizeLine)
    (h : ∀ h', ObjM h' x dx C (fun y => if y = name then some v else mA y) → Heap.SameBut dx s.heap h' → Q () { s with heap := h', toks := s.toks + 2 }) :
    wpAny (model prog w) A (setAttr (.ref x) name v) Q E s := by
  obtain ⟨od, J, hl⟩ := I.look
  refine PySem.W.set_plain X J hs (PySem.W.osa_open (s := { s with toks := s.toks + 1 }) (r := none) X J hp ht fun b => ?_)
  obtain ⟨cd, hc, hd'⟩ := PySem.W.any_some hh
  have hx : s.heap.get? x = some ⟨.ref C, some dx, .plain, #[]⟩ := I.obj
  refine wpAny_bind (wpAny_pure (wpAny_bind (wpAny_bind (wpAny_loadPart hx (wpAny_bind (PySem.W.Looks.here (s := { s with toks := s.toks + 1 }) (PySem.W.looks_clsIn X hc) ?_))))))
  rw [hd']
  refine wpAny_pure (a := some dx) (wpAny_bind (wpAny_pure (wpAny_bind ?_)))
  refine wpAny_nsSet1 (s := { s with toks := s.toks + 1 }) I.ns fun h' hn2 hs2 => ?_
  obtain ⟨oD, esD, epD, hoD, hdD, hcD⟩ := hn2.count (PySem.Within.cons name v hw)
  refine wpAny_bind (wpAny_lookBehind hoD (by rw [hdD]; exact pastItsLine_dict (Nat.le_trans hcD (by rw [List.length_cons]; omega))) ?_)
  exact wpAny_pure (h _ ⟨(hs2.2 _ (Ne.symm I.ne)).trans I.obj, hn2, I.ne⟩ hs2)

/-- C(..): the dict at the heap's end, the instance behind it; then its __init__ -/
theorem make_map {R : Result → Shared → Prop} {vs : List Value} {kw : List (Str × Value)} (X : K.In s.heap) (hm : PySem.W.makesIn K C = true)
    (hi : PySem.W.findIn K (.ref C) "__init__" = some (some (.ref f))) (hf : PySem.W.typeIn K (.ref f) = some (.type "function"))
    (h : codeAny (model prog w) (A.under (.builtin "type.__call__" ⟨.ref C :: vs, kw⟩)) (.call (.ref f) ⟨.ref (s.heap.objs.size + 1) :: vs, kw⟩) (PySem.W.InitBack (s.heap.objs.size + 1) R)
      { s with heap := (s.heap.push PySem.W.emptyDict).push (PySem.W.instObj C s.heap.objs.size) }) :
    codeAny (model prog w) A (.call (.ref C) ⟨vs, kw⟩) R s := by
  obtain ⟨hh, g, d, t, os⟩ := s
  exact PySem.W.make_core (PySem.W.makes_of X hm) (PySem.W.looks_findIn X hi) (fun self => PySem.W.bind_fn X self hf) (.inl rfl) h
/-- C() where there is no __init__ but object's -/
theorem make_map0 {R : Result → Shared → Prop} (X : K.In s.heap) (hm : PySem.W.makesIn K C = true)
    (hi : PySem.W.findIn K (.ref C) "__init__" = some (some (.builtin "object.__init__")))
    (hb : ∀ self, PySem.W.Looks (model prog w) s.heap (bindSpecial (.builtin "object.__init__") self) (.builtin "object.__init__", [self]))
    (h : codeAny (model prog w) (A.under (.builtin "type.__call__" ⟨[.ref C], []⟩)) (.call (.builtin "object.__init__") ⟨[.ref (s.heap.objs.size + 1)], []⟩) (PySem.W.InitBack (s.heap.objs.size + 1) R)
      { s with heap := (s.heap.push PySem.W.emptyDict).push (PySem.W.instObj C s.heap.objs.size) }) :
    codeAny (model prog w) A (.call (.ref C) ⟨[], []⟩) R s := by
  obtain ⟨hh, g, d, t, os⟩ := s
  exact PySem.W.make_core (PySem.W.makes_of X hm) (PySem.W.looks_findIn X hi) hb (.inr ⟨rfl, rfl⟩) h
end

/-! ### the attributes as a list of pairs -/
def putF (f : Str) (v : V) : List (Str × V) → List (Str × V)
  | [] => [(f, v)]
  | (g, x) :: r => if g = f then (g, v) :: r else (g, x) :: putF f v r
theorem lookup_putF (f g : Str) (v : V) : ∀ fs : List (Str × V), (putF f v fs).lookup g = if g = f then some v else fs.lookup g
  | [] => by
    show List.lookup g [(f, v)] = _
    by_cases h : g = f
    · have hb : (g == f) = true := beq_iff_eq.mpr h
      simp only [List.lookup, hb, if_pos h]
    · have hb : (g == f) = false := beq_eq_false_iff_ne.mpr h
      simp only [List.lookup, hb, if_neg h]
  | (k, x) :: r => by
    have ih := lookup_putF f g v r
    rw [show putF f v ((k, x) :: r) = (if k = f then (k, v) :: r else (k, x) :: putF f v r) from rfl]
    by_cases hk : k = f
    · rw [if_pos hk]
      by_cases h : g = k
      · have hb : (g == k) = true := beq_iff_eq.mpr h
        simp only [List.lookup, hb, if_pos (h.trans hk)]
      · have hb : (g == k) = false := beq_eq_false_iff_ne.mpr h
        simp only [List.lookup, hb, if_neg (fun e : g = f => h (e.trans hk.symm))]
    · rw [if_neg hk]
      by_cases h : g = k
      · have hb : (g == k) = true := beq_iff_eq.mpr h
        simp only [List.lookup, hb, if_neg (fun e : g = f => hk (h.symm.trans e))]
      · have hb : (g == k) = false := beq_eq_false_iff_ne.mpr h
        simp only [List.lookup, hb]
        exact ih
theorem keys_putF (f : Str) (v : V) : ∀ fs : List (Str × V), f ∈ (putF f v fs).map (·.1) ∧ ∀ g, g ∈ fs.map (·.1) → g ∈ (putF f v fs).map (·.1)
  | [] => ⟨by simp [putF], fun g h => by simp at h⟩
  | (k, x) :: r => by
    obtain ⟨i1, i2⟩ := keys_putF f v r
    rw [show putF f v ((k, x) :: r) = (if k = f then (k, v) :: r else (k, x) :: putF f v r) from rfl]
    by_cases hk : k = f
    · rw [if_pos hk]
      subst hk
      exact ⟨by simp, fun g h => by simpa using h⟩
    · rw [if_neg hk]
      refine ⟨?_, fun g h => ?_⟩
      · rw [List.map_cons]
        exact List.mem_cons_of_mem _ i1
      · rw [List.map_cons] at h ⊢
        rcases List.mem_cons.mp h with e | e
        · exact List.mem_cons.mpr (.inl e)
        · exact List.mem_cons_of_mem _ (i2 g e)
theorem length_putF (f : Str) (v : V) : ∀ fs : List (Str × V), (putF f v fs).length ≤ fs.length + 1
  | [] => by simp [putF]
  | (k, x) :: r => by
    have ih := length_putF f v r
    rw [show putF f v ((k, x) :: r) = (if k = f then (k, v) :: r else (k, x) :: putF f v r) from rfl]
    by_cases hk : k = f
    · rw [if_pos hk, List.length_cons, List.length_cons]; omega
    · rw [if_neg hk, List.length_cons, List.length_cons]; omega

theorem RelO.some_of {v : V} {o : Option Value} (r : RelO (some v) o) : ∃ u, o = some u ∧ RelV v u := by
  cases o with
  | none => exact (show False from r).elim
  | some u => exact ⟨u, rfl, r⟩
theorem RelO.none_of {o : Option Value} (r : RelO none o) : o = none := by
  cases o with
  | none => rfl
  | some u => exact (show False from r).elim
theorem handed_of {v : V} {u : Value} (r : RelV v u) : PySem.W.handedIn u = true := by
  cases v with
  | non => cases (show u = Value.none from r); rfl
  | bl b => cases (show u = Value.bool b from r); rfl
  | int i => obtain ⟨t, e⟩ := (show ∃ t, u = Value.int i t from r); cases e; rfl
  | str x => obtain ⟨t, e⟩ := (show ∃ t, u = Value.str x t from r); cases e; rfl
  | byt b => obtain ⟨t, e⟩ := (show ∃ t, u = Value.bytes b t from r); cases e; rfl
  | flt b => obtain ⟨t, e⟩ := (show ∃ t, u = Value.float b t from r); cases e; rfl
  | ref a => cases (show u = Value.ref a from r); rfl
  | ty n => cases (show u = Value.type n from r); rfl

section
variable {P : Program} {w : World} {H H' : Hp} {h h' : Heap} {a C dx : Addr} {fs fs' : List (Str × V)}
theorem ins_get (hok : HOk P w H h) (e : H a = some (.ins C dx fs)) : ∃ mA, ObjM h a dx C mA ∧ (∀ f, RelO (fs.lookup f) (mA f)) ∧ PySem.Within mA (fs.map (·.1)) ∧ fs.length ≤ 1000 ∧ H dx = some (.own a) := by
  obtain ⟨d, z, ne, ob, mA, n, r, q⟩ := (show ObjOk P w H h a (.ins C dx fs) from hok a _ e)
  exact ⟨mA, ⟨ob, n, ne⟩, r, q, z, d⟩
end

/-! ### what of the text a class must have -/
structure Cls (K : PySem.W.Frag) (C : Addr) : Prop where
  pg : PySem.W.plainGet K C Str.empty = true
  hd : PySem.W.hasDictIn K C = true
  po : PySem.W.plainOver K C = true
  sa : PySem.W.findIn K (.ref C) "__setattr__" = some (some (.builtin "object.__setattr__"))
theorem Cls.get {K : PySem.W.Frag} {C : Addr} (c : Cls K C) (f : Str) : PySem.W.plainGet K C f = true := c.pg
/-- no class of it has the name -/
def NoAttr (K : PySem.W.Frag) (C : Addr) (f : Str) : Prop := PySem.W.findIn K (.ref C) f = some none
theorem NoAttr.taker {K : PySem.W.Frag} {C : Addr} {f : Str} (n : NoAttr K C f) : PySem.W.takerIn K C f = some none := by
  unfold PySem.W.takerIn
  rw [show PySem.W.findIn K (.ref C) f = some none from n]
  rfl
/-- a constant of the class -/
structure Con (K : PySem.W.Frag) (C : Addr) (f : Str) (v : V) (u : Value) : Prop where
  at_ : PySem.W.findIn K (.ref C) f = some (some u)
  rel : RelV v u
  get : PySem.W.specialIn K u "__get__" = some none
  cp : PySem.W.copiedNames.contains f = false
/-- a method: a plain def of the class or of one above it -/
structure Meth (K : PySem.W.Frag) (C : Addr) (m : Str) (f : Addr) : Prop where
  at_ : PySem.W.findIn K (.ref C) m = some (some (.ref f))
  fn : PySem.W.isFn K (.ref f) = true
  kp : PySem.W.keepIn K (.ref f) = true

section
variable {X : Cx} {pins : List (Addr × Obj)} {σ : St} {H : Hp} {s : Shared} {a C dx : Addr} {fs : List (Str × V)} {f : Str} {v : V} {A : Around} {E : Value → Shared → Prop}

theorem getattr_ok {b : Bool} {Q : Value → Shared → Prop} (I : Inv X pins σ H s) (e : H a = some (.ins C dx fs)) (c : Cls X.K C) (n : NoAttr X.K C f) (l : fs.lookup f = some v)
    (h : ∀ u s', Inv X pins σ H s' → RelV v u → Q u s') : wpAny (model X.prog X.w) A (getAttr (.ref a) f b) Q E s := by
  obtain ⟨mA, O, r, _, _, _⟩ := ins_get I.hok e
  obtain ⟨u, hu, ru⟩ := RelO.some_of (v := v) (o := mA f) (by rw [← l]; exact r f)
  exact get_map I.kIn O (c.get f) c.hd n hu (handed_of ru) (h u _ (I.tok _) ru)

theorem getcon_ok {b : Bool} {u : Value} {Q : Value → Shared → Prop} (I : Inv X pins σ H s) (e : H a = some (.ins C dx fs)) (c : Cls X.K C) (k : Con X.K C f v u) (l : fs.lookup f = none)
    (h : ∀ s', Inv X pins σ H s' → Q u s') : wpAny (model X.prog X.w) A (getAttr (.ref a) f b) Q E s := by
  obtain ⟨mA, O, r, _, _, _⟩ := ins_get I.hok e
  have hn : mA f = none := RelO.none_of (by rw [← l]; exact r f)
  exact get_const I.kIn O (c.get f) c.hd k.at_ k.get k.cp hn (handed_of k.rel) (h _ (I.tok _))

theorem getmeth_ok {m : Str} {g : Addr} {pl : Sem Bool} {Q : Value × List Value → Shared → Prop} (I : Inv X pins σ H s) (e : H a = some (.ins C dx fs)) (c : Cls X.K C) (k : Meth X.K C m g) (l : fs.lookup m = none)
    (h : Q (.ref g, [.ref a]) s) : wpAny (model X.prog X.w) A (getMethod (.ref a) m pl) Q E s := by
  obtain ⟨mA, O, r, _, _, _⟩ := ins_get I.hok e
  have hn : mA m = none := RelO.none_of (by rw [← l]; exact r m)
  exact get_meth I.kIn O (c.get m) k.at_ k.fn hn h

theorem setattr_ok {y : V} {u : Value} {Q : Unit → Shared → Prop} (I : Inv X pins σ H s) (e : H a = some (.ins C dx fs)) (c : Cls X.K C) (n : NoAttr X.K C f) (hl : fs.length < 1000) (ry : RelV y u)
    (h : ∀ s', Inv X pins σ (upd H a (.ins C dx (putF f y fs))) s' → Q () s') : wpAny (model X.prog X.w) A (setAttr (.ref a) f u) Q E s := by
  obtain ⟨mA, O, r, wi, _, ho⟩ := ins_get I.hok e
  have hz : (fs.map (·.1)).length ≤ sizeLine := by rw [List.length_map, sizeLine_eq]; omega
  refine set_map I.kIn O c.sa c.po n.taker c.hd wi hz fun h' O' sb => h _ ?_
  have hd : ∃ o, h'.get? dx = some o := let ⟨o, _, _, e', _⟩ := O'.ns; ⟨o, e'⟩
  refine I.write (x := a) (e := dx) (by rw [e]; exact True.intro) (.inr ho) (fun b q hb z => (sb.2 b hb).trans z) hd ?_
  refine ⟨by rw [upd_ne O.ne]; exact ho, ?_, O.ne, O'.obj, _, O'.ns, fun g => ?_, fun g hg => ?_⟩
  · have := length_putF f y fs; omega
  · show RelO ((putF f y fs).lookup g) (if g = f then some u else mA g)
    rw [lookup_putF]
    by_cases q : g = f
    · rw [if_pos q, if_pos q]; exact ry
    · rw [if_neg q, if_neg q]; exact r g
  · by_cases q : g = f
    · rw [q]; exact (keys_putF f y fs).1
    · refine (keys_putF f y fs).2 g (wi g fun z => hg ?_)
      show (if g = f then some u else mA g) = none
      rw [if_neg q]; exact z

/-- a new instance, tracked, without attributes -/
theorem Inv.made (I : Inv X pins σ H s) : Inv X pins σ (upd (upd H s.heap.objs.size (.own (s.heap.objs.size + 1))) (s.heap.objs.size + 1) (.ins C s.heap.objs.size []))
    { s with heap := (s.heap.push PySem.W.emptyDict).push (PySem.W.instObj C s.heap.objs.size) } := by
  have e1 : (s.heap.push PySem.W.emptyDict).get? s.heap.objs.size = some PySem.W.emptyDict := Heap.get?_push_size s.heap rfl
  have e2 : ((s.heap.push PySem.W.emptyDict).push (PySem.W.instObj C s.heap.objs.size)).get? (s.heap.objs.size + 1) = some (PySem.W.instObj C s.heap.objs.size) := by
    have := Heap.get?_push_size (s.heap.push PySem.W.emptyDict) (o := PySem.W.instObj C s.heap.objs.size) rfl
    rwa [Heap.size_push] at this
  have e3 : (s.heap.push PySem.W.emptyDict).Ns s.heap.objs.size (fun _ => none) := ⟨PySem.W.emptyDict, #[], _, e1, rfl, (fun e he => absurd he (by simp)), fun _ => rfl⟩
  have I1 := I.laid (a := s.heap.objs.size) (o := .own (s.heap.objs.size + 1)) (h' := s.heap.push PySem.W.emptyDict) (t' := s.toks) (fun b u q => Heap.get?_push_of_some _ q) (Nat.le_refl _) ⟨_, e1⟩
  refine I1.laid (a := s.heap.objs.size + 1) (o := .ins C s.heap.objs.size []) (t' := s.toks) (fun b u q => Heap.get?_push_of_some _ q) (Nat.le_of_eq (Heap.size_push _ _)) ?_
  have ne : s.heap.objs.size ≠ s.heap.objs.size + 1 := Nat.ne_of_lt (Nat.lt_succ_self _)
  refine ⟨by rw [upd_ne ne, upd_same], Nat.zero_le _, ne, e2, fun _ => none, (Heap.Ns1.of_empty e3).at fun o q => Heap.get?_push_of_some _ q, fun _ => True.intro, fun y hy => absurd rfl hy⟩

/-- e.f where nothing but the object is asked: through attributeBase (super) and the last hold -/
theorem attr_of {prog : Program} {w : World} {env : Env} {e : Expr} {f : Str} {pos : Pos} {s : Shared} {Q : Value → Shared → Prop} (hb : attributeBase e f env (eval e env) = eval e env)
    (h : wpAny (model prog w) A (eval e env) (fun o s₁ => wpAny (model prog w) A (getAttr o f true) Q E s₁) E s) : wpAny (model prog w) A (eval (.Attribute e f pos) env) Q E s :=
  Attribute_any_ h (by rw [arm_eval_Attribute, hb])
end

/-! ### readings and rules -/
/-- e.f, an attribute of the instance -/
def tFld (K : PySem.W.Frag) (ta : TE) (f : Str) : TE := fun σ H Q => ta σ H fun x H1 => ∃ a C dx fs v, x = .ref a ∧ H1 a = some (.ins C dx fs) ∧ Cls K C ∧ NoAttr K C f ∧ fs.lookup f = some v ∧ Q v H1
/-- e.f, a constant of the class -/
def tCon (K : PySem.W.Frag) (ta : TE) (f : Str) : TE := fun σ H Q => ta σ H fun x H1 => ∃ a C dx fs v u, x = .ref a ∧ H1 a = some (.ins C dx fs) ∧ Cls K C ∧ Con K C f v u ∧ fs.lookup f = none ∧ Q v H1
/-- e.f = value -/
def sFld (K : PySem.W.Frag) (ta tv : TE) (f : Str) : TS := fun D σ H => tv σ H fun y H1 => ta σ H1 fun x H2 => ∃ a C dx fs, x = .ref a ∧ H2 a = some (.ins C dx fs) ∧ Cls K C ∧ NoAttr K C f ∧ fs.length < 1000 ∧
  D.nx σ (upd H2 a (.ins C dx (putF f y fs)))
/-- an augmented operator on two values -/
def InOp (X : Cx) (op : Operator) (rd : V → V → Hp → VK → Prop) : Prop :=
  ∀ (pins : List (Addr × Obj)) (s : Shared) (σ : St) (H : Hp) (x y : V) (u v : Value) (Q : VK), Inv X pins σ H s → RelV x u → RelV y v → rd x y H Q → wpAny (model X.prog X.w) X.A (inplaceOp op u v) (EP X pins σ Q) X.xe s
/-- e.f op= value -/
def sFldAug (K : PySem.W.Frag) (ta tv : TE) (rd : V → V → Hp → VK → Prop) (f : Str) : TS := fun D σ H => ta σ H fun x H1 => ∃ a C dx fs v, x = .ref a ∧ H1 a = some (.ins C dx fs) ∧ Cls K C ∧ NoAttr K C f ∧ fs.lookup f = some v ∧
  tv σ H1 fun y H2 => rd v y H2 fun z H3 => ∃ dx' fs', H3 a = some (.ins C dx' fs') ∧ fs'.length < 1000 ∧ D.nx σ (upd H3 a (.ins C dx' (putF f z fs')))

section
variable {X : Cx} {o e value : Expr} {f : Str} {pos pos' tpos : Pos} {ta tv : TE}
theorem pe_fld (he : PE X e ta) (hb : attributeBase e f X.env (eval e X.env) = eval e X.env) : PE X (.Attribute e f pos) (tFld X.K ta f) := by
  intro pins s σ H Q I h
  refine attr_of hb (thn (he pins s σ H _ I h) fun u s1 ⟨x, H1, I1, rx, a, C, dx, fs, v, ex, ea, c, n, l, q⟩ => ?_)
  subst ex
  obtain rfl : u = Value.ref a := rx
  exact getattr_ok I1 ea c n l fun u' s2 I2 ru => ⟨v, H1, I2, ru, q⟩
theorem pe_con (he : PE X e ta) (hb : attributeBase e f X.env (eval e X.env) = eval e X.env) : PE X (.Attribute e f pos) (tCon X.K ta f) := by
  intro pins s σ H Q I h
  refine attr_of hb (thn (he pins s σ H _ I h) fun u s1 ⟨x, H1, I1, rx, a, C, dx, fs, v, u0, ex, ea, c, k, l, q⟩ => ?_)
  subst ex
  obtain rfl : u = Value.ref a := rx
  exact getcon_ok I1 ea c k l fun s2 I2 => ⟨v, H1, I2, k.rel, q⟩
theorem ps_fld (ha : PE X o ta) (hv : PE X value tv) (hs : swapsWith value (some (.Attribute o f pos')) pos.line X.env = pure false) : PS X (.Assign [.Attribute o f pos'] value pos) (sFld X.K ta tv f) := by
  intro pins s σ H D I h
  refine plainObj_wpAny_Assign_Attribute (thn (hv pins s σ H _ I h) fun u s1 ⟨y, H1, I1, ry, q⟩ => thn (ha pins s1 σ H1 _ I1 q) fun ov s2 ⟨x, H2, I2, rx, a, C, dx, fs, ex, ea, c, n, l, q2⟩ => ?_) hs
  subst ex
  obtain rfl : ov = Value.ref a := rx
  exact setattr_ok I2 ea c n l ry fun s3 I3 => ⟨σ, _, I3, q2⟩
theorem ps_fldaug {op : Operator} {rd : V → V → Hp → VK → Prop} (ha : PE X o ta) (hv : PE X value tv) (hop : InOp X op rd) : PS X (.AugAssign (.Attribute o f tpos) op value pos) (sFldAug X.K ta tv rd f) := by
  intro pins s σ H D I h
  refine wpAny_AugAssign_AttributeAny (thn (ha pins s σ H _ I h) fun ov s1 ⟨x, H1, I1, rx, a, C, dx, fs, v, ex, ea, c, n, l, q⟩ => ?_)
  subst ex
  obtain rfl : ov = Value.ref a := rx
  refine getattr_ok I1 ea c n l fun u s2 I2 ru => thn (hv pins s2 σ H1 _ I2 q) fun w3 s3 ⟨y, H2, I3, ry, q3⟩ => thn (hop pins s3 σ H2 v y u w3 _ I3 ru ry q3) fun w4 s4 ⟨z, H3, I4, rz, dx', fs', ea', l', q4⟩ => ?_
  exact setattr_ok I4 ea' c n l' rz fun s5 I5 => ⟨σ, _, I5, q4⟩
def rAdd : V → V → Hp → VK → Prop := fun x y H Q => ∃ i j, x = .int i ∧ y = .int j ∧ Q (.int (i + j)) H
def rSub : V → V → Hp → VK → Prop := fun x y H Q => ∃ i j, x = .int i ∧ y = .int j ∧ Q (.int (i - j)) H
theorem in_add : InOp X .Add rAdd := by
  rintro pins s σ H x y u v Q I rx ry ⟨i, j, rfl, rfl, q⟩
  obtain ⟨t, rfl⟩ := (show ∃ t, u = Value.int i t from rx)
  obtain ⟨t', rfl⟩ := (show ∃ t', v = Value.int j t' from ry)
  exact PyProof.Rows.iadd_int ⟨.int (i + j), H, I.tok _, ⟨_, rfl⟩, q⟩
theorem in_sub : InOp X .Sub rSub := by
  rintro pins s σ H x y u v Q I rx ry ⟨i, j, rfl, rfl, q⟩
  obtain ⟨t, rfl⟩ := (show ∃ t, u = Value.int i t from rx)
  obtain ⟨t', rfl⟩ := (show ∃ t', v = Value.int j t' from ry)
  exact PyProof.Rows.isub_int ⟨.int (i - j), H, I.tok _, ⟨_, rfl⟩, q⟩

/-- what is between an instance and its method: the tree of a method call -/
theorem methcall_of {pl : Sem Bool} {m : Str} {apos : Pos} {args : List Expr} {pins : List (Addr × Obj)} {s : Shared} {σ : St} {H : Hp} {Q : Value → Shared → Prop} {te : TE} (he : PE X e te) (I : Inv X pins σ H s)
    (h : te σ H fun x H1 => ∃ a C dx fs g, x = .ref a ∧ H1 a = some (.ins C dx fs) ∧ Cls X.K C ∧ Meth X.K C m g ∧ fs.lookup m = none ∧
      ∀ s1, Inv X pins σ H1 s1 → wpAny (model X.prog X.w) X.A (callWith pos (.ref g) [.ref a] (backTo pos (starEach args X.env)) (backToKw pos (keywordEach [] X.env))) Q X.xe s1)
    (ht : eval (.Call (.Attribute e m apos) args [] pos) X.env = (do
      let ov ← eval e X.env
      standAt apos.atName
      let (f, first) ← holding [ov] (getMethod ov m pl)
      callWith pos f first (backTo pos (starEach args X.env)) (backToKw pos (keywordEach [] X.env)))) :
    wpAny (model X.prog X.w) X.A (eval (.Call (.Attribute e m apos) args [] pos) X.env) Q X.xe s := by
  refine PySem.W.methodCall_KW (pl := pl) (thn (he pins s σ H _ I h) fun u s1 ⟨x, H1, I1, rx, a, C, dx, fs, g, ex, ea, c, k, l, q⟩ => ?_) ht
  subst ex
  obtain rfl : u = Value.ref a := rx
  exact getmeth_ok I1 ea c k l (q s1 I1)
end

/-! ### isinstance -/
section
variable {X : Cx} {pins : List (Addr × Obj)} {σ : St} {H : Hp} {s : Shared} {A : Around} {E : Value → Shared → Prop} {Q : Value → Shared → Prop} {c : Value} {b : Bool}
/-- the type of a value, as the fragment's deciders take it; for an instance its class -/
inductive TyOf (K : PySem.W.Frag) (H : Hp) : V → Value → Prop where
  | non : TyOf K H .non (.type "NoneType")
  | bl (x : Bool) : TyOf K H (.bl x) (.type "bool")
  | int (i : Int) : TyOf K H (.int i) (.type "int")
  | str (x : Str) : TyOf K H (.str x) (.type "str")
  | flt (x : UInt64) : TyOf K H (.flt x) (.type "float")
  | lst {a : Addr} {xs : List V} (e : H a = some (.lst xs)) : TyOf K H (.ref a) (.type "list")
  | frz {a : Addr} {o : Obj} {xs : List V} (e : H a = some (.frz o (.lst xs))) : TyOf K H (.ref a) (.type "list")
  | tup {a : Addr} {xs : List V} (e : H a = some (.tup xs)) : TyOf K H (.ref a) (.type "tuple")
  | dK {a : Addr} {kvs : List (Key × V)} (e : H a = some (.dK kvs)) : TyOf K H (.ref a) (.type "dict")
  | dT {a : Addr} {kvs : List (List Key × V)} (e : H a = some (.dT kvs)) : TyOf K H (.ref a) (.type "dict")
  | ins {a C dx : Addr} {fs : List (Str × V)} (e : H a = some (.ins C dx fs)) (cl : Cls K C) (ha : PySem.W.findIn K (.ref C) "__class__" = some (some (.builtin "object.__class__")))
      (hn : PySem.W.specialIn K (.builtin "object.__class__") "__get__" = some (some (.builtin "getset_descriptor.__get__"))) (htk : PySem.W.takesIn K (.builtin "object.__class__") = some true)
      (hm : PySem.W.mroIn K C (.type "object") = some true) : TyOf K H (.ref a) (.ref C)
/-- isinstance(x, c) for one class c, a built-in or an own one: kitOne's answer -/
theorem isinst_ok {x : V} {u t : Value} (I : Inv X pins σ H s) (rx : RelV x u) (ty : TyOf X.K H x t) (e : PySem.W.kitOne X.K t c = some b) (h : ∀ tk, Q (.bool b) { s with toks := tk }) :
    wpAny (model X.prog X.w) A (call (.builtin "isinstance") [u, c]) Q E s := by
  cases ty with
  | non => cases (show u = Value.none from rx); exact PySem.W.kia_one PySem.W.kitx_none I.kIn True.intro e (fun z => nomatch z) h
  | bl y => cases (show u = Value.bool y from rx); exact PySem.W.kia_one PySem.W.kitx_bool I.kIn True.intro e (fun z => nomatch z) h
  | int i => obtain ⟨t, q⟩ := (show ∃ t, u = Value.int i t from rx); cases q; exact PySem.W.kia_one PySem.W.kitx_int I.kIn True.intro e (fun z => nomatch z) h
  | str y => obtain ⟨t, q⟩ := (show ∃ t, u = Value.str y t from rx); cases q; exact PySem.W.kia_one PySem.W.kitx_str I.kIn True.intro e (fun z => nomatch z) h
  | flt y => obtain ⟨t, q⟩ := (show ∃ t, u = Value.float y t from rx); cases q; exact PySem.W.kia_one PySem.W.kitx_float I.kIn True.intro e (fun z => nomatch z) h
  | @lst a xs ea =>
    cases (show u = Value.ref a from rx)
    obtain ⟨_, _, n, _, h1⟩ := (show ObjOk X.prog X.w H s.heap a (.lst xs) from I.hok a _ ea)
    exact PySem.W.kia_one PySem.W.kitx_list I.kIn ⟨_, h1, rfl⟩ e (fun z => nomatch z) h
  | @frz a ob xs ea =>
    cases (show u = Value.ref a from rx)
    obtain ⟨_, _, _, n, _, h1⟩ := (show ObjOk X.prog X.w H s.heap a (.frz ob (.lst xs)) from I.hok a _ ea)
    exact PySem.W.kia_one PySem.W.kitx_list I.kIn ⟨_, h1, rfl⟩ e (fun z => nomatch z) h
  | @tup a xs ea =>
    cases (show u = Value.ref a from rx)
    obtain ⟨_, _, _, p⟩ := (show ObjOk X.prog X.w H s.heap a (.tup xs) from I.hok a _ ea)
    obtain ⟨o, h1, h2, _⟩ := p
    exact PySem.W.kia_one PySem.W.kitx_tuple I.kIn ⟨o, h1, h2⟩ e (fun z => nomatch z) h
  | @dK a kvs ea =>
    cases (show u = Value.ref a from rx)
    obtain ⟨_, _, vs, _, p⟩ := (show ObjOk X.prog X.w H s.heap a (.dK kvs) from I.hok a _ ea)
    obtain ⟨o, es, ep, h1, h2, _⟩ := p
    exact PySem.W.kia_one PySem.W.kitx_dict I.kIn ⟨o, h1, h2.1⟩ e (fun z => nomatch z) h
  | @dT a kvs ea =>
    cases (show u = Value.ref a from rx)
    obtain ⟨_, _, xs, _, o, es, ep, h1, h2, _⟩ := (show ObjOk X.prog X.w H s.heap a (.dT kvs) from I.hok a _ ea)
    exact PySem.W.kia_one PySem.W.kitx_dict I.kIn ⟨o, h1, h2.1⟩ e (fun z => nomatch z) h
  | @ins a C dx fs ea cl ha hn htk hm =>
    cases (show u = Value.ref a from rx)
    obtain ⟨mA, O, _⟩ := ins_get I.hok ea
    obtain ⟨od, J, _⟩ := O.look
    exact PySem.W.kia_one (PySem.W.kitx_own (cl.get _) cl.hd ha hn htk hm) I.kIn J e (fun z => nomatch z) h
end
end L2

namespace L2
open PySem PySem.Spec PyProof.Rows

/-! ### room -/
structure Room (k : Nat) (A : Around) : Prop where
  hd : A.handled = none
  dp : A.depth + 3 * k + 5 < recursionLimit
  un : A.units + 16 * k + 200 < cLine
theorem Room.mono {j k : Nat} {A : Around} (r : Room k A) (h : j ≤ k) : Room j A := ⟨r.hd, by have := r.dp; omega, by have := r.un; omega⟩
theorem Room.deeper {k : Nat} {A : Around} (r : Room (k + 1) A) (env : Env) : Room k (A.deeper env) :=
  ⟨r.hd, by have := r.dp; show A.depth + 1 + 3 * k + 5 < _; omega, by have := r.un; show A.units + 3 + 16 * k + 200 < _; omega⟩
theorem Room.in1 {k : Nat} {A : Around} (r : Room (k + 1) A) : Room k A.in1 :=
  ⟨r.hd, by have := r.dp; show A.depth + 3 * k + 5 < _; omega, by have := r.un; show A.units + 1 + 16 * k + 200 < _; omega⟩
theorem make_depth {A : Around} {C : Addr} {us : List Value} {kw : List (Str × Value)} : (A.under (.builtin "type.__call__" ⟨.ref C :: us, kw⟩)).depth = A.depth + 1 := by
  first | rfl | simp [Around.under, Code.weight, Code.isCreation, Code.isGuard, Code.isCaller, Code.frames, Code.isFrame, guardIds]
theorem make_units {A : Around} {C : Addr} {us : List Value} {kw : List (Str × Value)} : (A.under (.builtin "type.__call__" ⟨.ref C :: us, kw⟩)).units = A.units + 1 := by
  first | rfl | simp [Around.under, Code.cUnits, Code.frames, Code.isFrame]
theorem Room.make {k : Nat} {A : Around} (r : Room (k + 1) A) (C : Addr) (us : List Value) (kw : List (Str × Value)) : Room k (A.under (.builtin "type.__call__" ⟨.ref C :: us, kw⟩)) :=
  ⟨r.hd, by have := r.dp; rw [make_depth]; omega, by have := r.un; rw [make_units]; omega⟩
theorem Room.depth {k : Nat} {A : Around} (r : Room k A) : A.depth < recursionLimit := by have := r.dp; omega
theorem Room.units {k : Nat} {A : Around} (r : Room k A) : A.units + 64 < cLine := by have := r.un; omega
theorem Room.units0 {k : Nat} {A : Around} (r : Room k A) : A.units < cLine := by have := r.un; omega

/-! ### argument lists and displays -/
def tNil : TA := fun _ H Q => Q [] H
def tCons (ta : TE) (tr : TA) : TA := fun σ H Q => ta σ H fun x H1 => tr σ H1 fun xs H2 => Q (x :: xs) H2
section
variable {X : Cx} {e : Expr} {es : List Expr} {te : TE} {t : TA} {pos : Pos}
theorem pa_nil : PA X [] tNil := fun _ _ _ _ H Q I h => Calls.spliced_nil ⟨[], H, I, .nil, h⟩
theorem pa_cons (ha : PE X e te) (hr : PA X es t) (hs : starEach (e :: es) X.env = (false, eval e X.env) :: starEach es X.env := by rfl) : PA X (e :: es) (tCons te t) := by
  intro pos pins s σ H Q I h
  rw [hs]
  show wpAny _ _ (spliced ((false, eval e X.env) :: backTo pos (starEach es X.env))) _ _ s
  refine Calls.spliced_cons (thn (ha pins s σ H _ I h) fun u s1 ⟨x, H1, I1, r1, q1⟩ => ?_)
  exact thn (hr pos pins s1 σ H1 _ I1 q1) fun us s2 ⟨xs, H2, I2, r2, q2⟩ => ⟨x :: xs, H2, I2, .cons r1 r2, q2⟩

/-- a tuple, a list of written items -/
def tTup (t : TA) : TE := fun σ H Q => t σ H fun xs H1 => xs.length ≤ sizeLine ∧ ∀ p, H1 p = none → Q (.ref p) (upd H1 p (.tup xs))
def tLst (t : TA) : TE := fun σ H Q => t σ H fun xs H1 => xs.length ≤ sizeLine ∧ ∀ p, H1 p = none → Q (.ref p) (upd H1 p (.lst xs))
theorem pe_tup {x1} (h : PA X es t) : PE X (.Tuple es x1 pos) (tTup t) := by
  intro pins s σ H Q I hq
  refine wpAny_Tuple_spliced (thn (h pos pins s σ H _ I hq) fun us s1 ⟨xs, H1, I1, r, z, q⟩ => ⟨by rw [← r.length]; exact z, ?_⟩)
  have hf : H1 s1.heap.objs.size = none := I1.hok.fresh (Nat.le_refl _)
  refine ⟨.ref s1.heap.objs.size, upd H1 s1.heap.objs.size (.tup xs), I1.laid (t' := s1.toks) (fun b u e => Heap.get?_push_of_some _ e) (Nat.le_refl _) ?_, rfl, q _ hf⟩
  exact ⟨z, us, r, ⟨_, Heap.get?_push_size _ rfl, rfl, _, rfl⟩⟩
theorem pe_lst (h : PA X es t) : PE X (.List es pos) (tLst t) := by
  intro pins s σ H Q I hq
  refine wpAny_List_spliced (thn (h pos pins s σ H _ I hq) fun us s1 ⟨xs, H1, I1, r, z, q⟩ => ⟨by rw [← r.length]; exact z, ?_⟩)
  have hf : H1 s1.heap.objs.size = none := I1.hok.fresh (Nat.le_refl _)
  refine ⟨.ref s1.heap.objs.size, upd H1 s1.heap.objs.size (.lst xs), I1.laid (t' := s1.toks) (fun b u e => Heap.get?_push_of_some _ e) (Nat.le_refl _) ?_, rfl, q _ hf⟩
  exact ⟨z, us, 0, r, Heap.get?_push_size _ rfl⟩
end

/-! ### what a def promises -/
/-- a def's promise: the bound arguments in the parameters' order, the heap, the wanted end, the wanted exception -/
abbrev Sp := List V → Hp → VK → XK → Prop
/-- how an exception lies behind a call (file 08 gives it): the callers' frames, abstract heap and state ahead of the call, the wish, the exception, the state -/
abbrev CXT := List Env → Hp → Shared → XK → Value → Shared → Prop

/-- the state at a call -/
structure Env0 (P : Program) (w : World) (K : PySem.W.Frag) (mg : Str → Option Value) (base : Heap) (A : Around) (outer : List Env) (s : Shared) (H : Hp) : Prop where
  frames : A.frames = some outer
  mod : Mod K mg base
  bs : ∀ b o, base.get? b = some o → s.heap.get? b = some o ∧ H b = none
  bsz : base.objs.size ≤ s.heap.objs.size
  funs : s.heap.FunFrames base outer
  frf : ∀ b ∈ frs outer, H b = none
  hok : HOk P w H s.heap
  bare : AllBare s.gens
/-- a call's end -/
def CE (outer : List Env) (P : Program) (w : World) (H : Hp) (s : Shared) (Q : VK) (u : Value) (s' : Shared) : Prop :=
  ∃ v H', s'.os = s.os ∧ AllBare s'.gens ∧ Un (frs outer) [] H H' s.heap s'.heap ∧ HOk P w H' s'.heap ∧ RelV v u ∧ Q v H'
def CR (CX : CXT) (outer : List Env) (P : Program) (w : World) (H : Hp) (s : Shared) (Q : VK) (E : XK) (r : Result) (s' : Shared) : Prop :=
  match r with
  | .ok (.ret u) => CE outer P w H s Q u s'
  | .ok _ => False
  | .error e => CX outer H s E e s'
structure FnOk (P : Program) (w : World) (K : PySem.W.Frag) (mg : Str → Option Value) (base : Heap) (CX : CXT) (k : Nat) (f : Addr) (fd : FuncData) (ps : List Str) (sp : Sp) : Prop where
  len : ∀ vs H Q E, sp vs H Q E → vs.length = ps.length
  run : ∀ (A : Around) (outer : List Env) (s : Shared) (H : Hp) (args : Args) (us : List Value) (vs : List V) (Q : VK) (E : XK), Room k A → Env0 P w K mg base A outer s H → BindsTo s fd args (ps.zip us) → Vals vs us → sp vs H Q E →
    codeAny (model P w) A (.call (.ref f) args) (CR CX outer P w H s Q E) s
theorem FnOk.mono {P : Program} {w : World} {K : PySem.W.Frag} {mg : Str → Option Value} {base : Heap} {CX : CXT} {j k : Nat} {f : Addr} {fd : FuncData} {ps : List Str} {sp : Sp} (F : FnOk P w K mg base CX j f fd ps sp) (h : j ≤ k) :
    FnOk P w K mg base CX k f fd ps sp := ⟨F.len, fun A outer s H args us vs Q E hr => F.run A outer s H args us vs Q E (hr.mono h)⟩
/-- a weaker promise -/
theorem FnOk.imp {P : Program} {w : World} {K : PySem.W.Frag} {mg : Str → Option Value} {base : Heap} {CX : CXT} {k : Nat} {f : Addr} {fd : FuncData} {ps : List Str} {sp sp' : Sp} (F : FnOk P w K mg base CX k f fd ps sp)
    (h : ∀ vs H Q E, sp' vs H Q E → sp vs H Q E) : FnOk P w K mg base CX k f fd ps sp' :=
  ⟨fun vs H Q E q => F.len vs H Q E (h _ _ _ _ q), fun A outer s H args us vs Q E hr he hb hv hs => F.run A outer s H args us vs Q E hr he hb hv (h _ _ _ _ hs)⟩

theorem Env0.make {P : Program} {w : World} {K : PySem.W.Frag} {mg : Str → Option Value} {base : Heap} {A : Around} {outer : List Env} {s : Shared} {H : Hp} (e : Env0 P w K mg base A outer s H) (C : Addr) (us : List Value) (kw : List (Str × Value)) :
    Env0 P w K mg base (A.under (.builtin "type.__call__" ⟨.ref C :: us, kw⟩)) outer s H := ⟨by first | exact e.frames | (simpa [Around.under, Code.envs, Code.isFrame, pushEnvs] using e.frames), e.mod, e.bs, e.bsz, e.funs, e.frf, e.hok, e.bare⟩
theorem Env0.in1 {P : Program} {w : World} {K : PySem.W.Frag} {mg : Str → Option Value} {base : Heap} {A : Around} {outer : List Env} {s : Shared} {H : Hp} (e : Env0 P w K mg base A outer s H) :
    Env0 P w K mg base A.in1 outer s H := ⟨e.frames, e.mod, e.bs, e.bsz, e.funs, e.frf, e.hok, e.bare⟩

section
variable {X : Cx} {pins : List (Addr × Obj)} {σ : St} {H : Hp} {s s' : Shared}
/-- from a body: what a callee wants -/
theorem Inv.env0 (I : Inv X pins σ H s) : Env0 X.prog X.w X.K X.mg X.base X.A X.stack s H :=
  ⟨I.ok.frames, I.ok.mod, I.bs, Nat.le_trans I.ok.bsz I.sz, I.stack, I.stkFree, I.hok, I.bare⟩
/-- behind a call -/
theorem Inv.after {Q : VK} {u : Value} (I : Inv X pins σ H s) (h : CE X.stack X.prog X.w H s Q u s') : EP X pins σ Q u s' := by
  obtain ⟨v, H', os, bare, un, hok, r, q⟩ := h
  obtain ⟨hh, g, d, t, os'⟩ := s'
  obtain rfl : os' = s.os := os
  exact ⟨v, H', I.call (h' := hh) (g' := g) (d' := d) (t' := t) (ch := []) un hok bare (fun b z => absurd z (by simp)), r, q⟩
end

/-! ### calls -/
/-- f(..): the written arguments, then the defaults dvs; E: what is wanted of an exception -/
def tCall (sp : Sp) (dvs : List V) (E : XK) (t : TA) : TE := fun σ H Q => t σ H fun vs H1 => sp (vs ++ dvs) H1 Q E
/-- o.m(..) of an instance of the class at C -/
def tMeth (C : Addr) (m : Str) (sp : Sp) (dvs : List V) (E : XK) (ta : TE) (t : TA) : TE := fun σ H Q => ta σ H fun x H1 => ∃ a dx fs, x = .ref a ∧ H1 a = some (.ins C dx fs) ∧ fs.lookup m = none ∧
  t σ H1 fun vs H2 => sp (x :: (vs ++ dvs)) H2 Q E
/-- C(..): a new instance and its dict, then __init__ -/
def tMake (C : Addr) (sp : Sp) (dvs : List V) (E : XK) (t : TA) : TE := fun σ H Q => t σ H fun vs H1 => ∀ x dx, H1 x = none → H1 dx = none → dx ≠ x →
  sp (.ref x :: (vs ++ dvs)) (upd (upd H1 dx (.own x)) x (.ins C dx [])) (fun v H2 => v = .non ∧ Q (.ref x) H2) E

/-- how the parameters are bound: us the positional arguments, kw the keywords' values by name, ds the defaults that fill up -/
def Binds (K : PySem.W.Frag) (fd : FuncData) (ps : List Str) (ds : List Value) : Prop :=
  ∀ (s : Shared) (us : List Value), K.In s.heap → (us ++ ds).length = ps.length → BindsTo s fd ⟨us, []⟩ (ps.zip (us ++ ds))
/-- every parameter is given -/
theorem Binds.all {K : PySem.W.Frag} {fd : FuncData} {ps : List Str} (h : ∀ us : List Value, us.length = ps.length → bindArgs fd ⟨us, []⟩ = pure (ps.zip us)) : Binds K fd ps [] := fun s us _ hl => by
  rw [List.append_nil] at hl ⊢
  exact .of_eq (h us hl)

/-- an exception of a callee reaches what this body wants of exceptions -/
def Passes (CX : CXT) (X : Cx) (E : XK) : Prop := ∀ (pins : List (Addr × Obj)) (σ : St) (H : Hp) (s : Shared) (e : Value) (s' : Shared), Inv X pins σ H s → CX X.stack H s E e s' → X.xe e s'

section
variable {X : Cx} {CX : CXT} {k : Nat} {f C : Addr} {fd : FuncData} {ps : List Str} {sp : Sp} {dvs : List V} {ds : List Value} {E : XK} {x m : Str} {p pos apos : Pos} {e o : Expr} {es : List Expr} {ta : TE} {t : TA}

/-- the callee runs -/
theorem run_fn {pins : List (Addr × Obj)} {σ : St} {H : Hp} {s : Shared} {Q : VK} {us : List Value} {vs : List V} (F : FnOk X.prog X.w X.K X.mg X.base CX k f fd ps sp) (hr : Room k X.A) (hb : Binds X.K fd ps ds) (hd : Vals dvs ds) (hx : Passes CX X E)
    (I : Inv X pins σ H s) (r : Vals vs us) (h : sp (vs ++ dvs) H Q E) : wpAny (model X.prog X.w) X.A (call (.ref f) us) (EP X pins σ Q) X.xe s := by
  have r2 : Vals (vs ++ dvs) (us ++ ds) := r.append hd
  have hl : (us ++ ds).length = ps.length := by rw [← r2.length]; exact F.len _ _ _ _ h
  refine wpAny_call (codeAny_mono (F.run X.A X.stack s H ⟨us, []⟩ (us ++ ds) (vs ++ dvs) Q E hr I.env0 (hb s us I.kIn hl) r2 h) fun r s' hq => ?_)
  cases r with
  | error e => exact hx pins σ H s e s' I hq
  | ok fl =>
    cases fl with
    | ret u => exact I.after hq
    | next => exact False.elim hq
    | brk => exact False.elim hq
    | cont => exact False.elim hq

theorem pe_call (F : FnOk X.prog X.w X.K X.mg X.base CX k f fd ps sp) (hr : Room k X.A) (hg : Gl X x) (hm : X.mg x = some (.ref f)) (hk : PySem.W.keepIn X.K (.ref f) = true) (hb : Binds X.K fd ps ds) (hd : Vals dvs ds) (hx : Passes CX X E)
    (ha : PA X (e :: es) t) (hdb : (x == ("__debug__" : Str)) = false := by decide) (he : starEach (e :: es) X.env = (false, eval e X.env) :: starEach es X.env := by rfl) (hpl : (backTo pos (starEach es X.env)).any (·.1) = false := by rfl) :
    PE X (.Call (.Name x p) (e :: es) [] pos) (tCall sp dvs E t) := by
  intro pins s σ H Q I h
  refine wpAny_Call_Name_kw (ld_glob I hg hm ?_ hdb)
  refine PySem.W.callWith_K (h₀ := X.base) I.ok.mod.kin hk (thn (ha pos pins s σ H _ I h) fun us s1 ⟨vs, H1, I1, r, q⟩ => ⟨I1.kIn, ?_⟩) he hpl
  exact run_fn F hr hb hd hx I1 r q
theorem pe_call0 (F : FnOk X.prog X.w X.K X.mg X.base CX k f fd ps sp) (hr : Room k X.A) (hg : Gl X x) (hm : X.mg x = some (.ref f)) (hk : PySem.W.keepIn X.K (.ref f) = true) (hb : Binds X.K fd ps ds) (hd : Vals dvs ds) (hx : Passes CX X E)
    (hdb : (x == ("__debug__" : Str)) = false := by decide) : PE X (.Call (.Name x p) [] [] pos) (tCall sp dvs E tNil) := by
  intro pins s σ H Q I h
  refine wpAny_Call_Name_kw (ld_glob I hg hm ?_ hdb)
  exact PySem.W.callWith_K0 I.kIn hk (run_fn (us := []) F hr hb hd hx I .nil h)

/-- o.m(e, ..) -/
theorem pe_meth {pl : Sem Bool} (he : PE X o ta) (c : Cls X.K C) (hm : Meth X.K C m f) (F : FnOk X.prog X.w X.K X.mg X.base CX k f fd ps sp) (hr : Room k X.A) (hb : Binds X.K fd ps ds) (hd : Vals dvs ds) (hx : Passes CX X E) (ha : PA X (e :: es) t)
    (hst : starEach (e :: es) X.env = (false, eval e X.env) :: starEach es X.env := by rfl) (hpl : (backTo pos (starEach es X.env)).any (·.1) = false := by rfl)
    (ht : eval (.Call (.Attribute o m apos) (e :: es) [] pos) X.env = (do
      let ov ← eval o X.env
      standAt apos.atName
      let (f, first) ← holding [ov] (getMethod ov m pl)
      callWith pos f first (backTo pos (starEach (e :: es) X.env)) (backToKw pos (keywordEach [] X.env))) := by rfl) :
    PE X (.Call (.Attribute o m apos) (e :: es) [] pos) (tMeth C m sp dvs E ta t) := by
  intro pins s σ H Q I h
  refine PySem.W.methodCall_KW (pl := pl) (thn (he pins s σ H _ I h) fun u s1 ⟨x, H1, I1, rx, a, dx, fs, ex, ea, l, q⟩ => ?_) ht
  subst ex
  obtain rfl : u = Value.ref a := rx
  refine getmeth_ok I1 ea c hm l ?_
  refine PySem.W.callWith_K (first := [.ref a]) (h₀ := X.base) I.ok.mod.kin hm.kp (thn (ha pos pins s1 σ H1 _ I1 q) fun us s2 ⟨vs, H2, I2, r, q2⟩ => ⟨I2.kIn, ?_⟩) hst hpl
  exact run_fn (us := .ref a :: us) (vs := .ref a :: vs) F hr hb hd hx I2 (.cons rfl r) q2
/-- o.m() -/
theorem pe_meth0 {pl : Sem Bool} (he : PE X o ta) (c : Cls X.K C) (hm : Meth X.K C m f) (F : FnOk X.prog X.w X.K X.mg X.base CX k f fd ps sp) (hr : Room k X.A) (hb : Binds X.K fd ps ds) (hd : Vals dvs ds) (hx : Passes CX X E)
    (ht : eval (.Call (.Attribute o m apos) [] [] pos) X.env = (do
      let ov ← eval o X.env
      standAt apos.atName
      let (f, first) ← holding [ov] (getMethod ov m pl)
      callWith pos f first (backTo pos (starEach [] X.env)) (backToKw pos (keywordEach [] X.env))) := by rfl) :
    PE X (.Call (.Attribute o m apos) [] [] pos) (tMeth C m sp dvs E ta tNil) := by
  intro pins s σ H Q I h
  refine PySem.W.methodCall_KW (pl := pl) (thn (he pins s σ H _ I h) fun u s1 ⟨x, H1, I1, rx, a, dx, fs, ex, ea, l, q⟩ => ?_) ht
  subst ex
  obtain rfl : u = Value.ref a := rx
  refine getmeth_ok I1 ea c hm l ?_
  exact PySem.W.callWith_K0 (first := [.ref a]) I1.kIn hm.kp (run_fn (us := [.ref a]) (vs := [.ref a]) F hr hb hd hx I1 (.cons rfl .nil) q)

/-- what a class must have to be made -/
structure Mk (K : PySem.W.Frag) (C f : Addr) : Prop where
  makes : PySem.W.makesIn K C = true
  init : PySem.W.findIn K (.ref C) "__init__" = some (some (.ref f))
  fn : PySem.W.isFn K (.ref f) = true
  kp : PySem.W.keepIn K (.ref C) = true

theorem run_make {pins : List (Addr × Obj)} {σ : St} {H : Hp} {s : Shared} {Q : VK} {us : List Value} {vs : List V} (M : Mk X.K C f) (F : FnOk X.prog X.w X.K X.mg X.base CX k f fd ps sp) (hr : Room (k + 1) X.A) (hb : Binds X.K fd ps ds) (hd : Vals dvs ds)
    (hx : Passes CX X E) (I : Inv X pins σ H s) (r : Vals vs us)
    (h : ∀ x dx, H x = none → H dx = none → dx ≠ x → sp (.ref x :: (vs ++ dvs)) (upd (upd H dx (.own x)) x (.ins C dx [])) (fun v H2 => v = .non ∧ Q (.ref x) H2) E) :
    wpAny (model X.prog X.w) X.A (call (.ref C) us) (EP X pins σ Q) X.xe s := by
  have hq := h (s.heap.objs.size + 1) s.heap.objs.size (I.hok.fresh (Nat.le_succ _)) (I.hok.fresh (Nat.le_refl _)) (Nat.ne_of_lt (Nat.lt_succ_self _))
  have I2 := Inv.made (C := C) I
  have r2 : Vals (V.ref (s.heap.objs.size + 1) :: (vs ++ dvs)) (Value.ref (s.heap.objs.size + 1) :: (us ++ ds)) := .cons rfl (r.append hd)
  have hl : (Value.ref (s.heap.objs.size + 1) :: us ++ ds).length = ps.length := by
    have e := r2.length
    rw [F.len _ _ _ _ hq] at e
    exact e.symm
  refine wpAny_call (make_map (f := f) I.kIn M.makes M.init (beq_iff_eq.mp M.fn) (codeAny_mono (F.run _ X.stack _ _ ⟨Value.ref (s.heap.objs.size + 1) :: us, []⟩ (Value.ref (s.heap.objs.size + 1) :: (us ++ ds)) _ _ E (hr.make C us [])
    (I2.env0.make C us []) (hb _ (Value.ref (s.heap.objs.size + 1) :: us) I2.kIn hl) r2 hq) fun r s' hq' => ?_))
  cases r with
  | error e => exact hx pins σ _ _ e s' I2 hq'
  | ok fl =>
    cases fl with
    | ret u =>
      obtain ⟨v, H', I3, rv, ev, q3⟩ := I2.after hq'
      subst ev
      exact ⟨rv, ⟨V.ref (s.heap.objs.size + 1), H', I3, rfl, q3⟩⟩
    | next => exact False.elim hq'
    | brk => exact False.elim hq'
    | cont => exact False.elim hq'
theorem pe_make (M : Mk X.K C f) (F : FnOk X.prog X.w X.K X.mg X.base CX k f fd ps sp) (hr : Room (k + 1) X.A) (hg : Gl X x) (hm : X.mg x = some (.ref C)) (hb : Binds X.K fd ps ds) (hd : Vals dvs ds) (hx : Passes CX X E)
    (ha : PA X (e :: es) t) (hdb : (x == ("__debug__" : Str)) = false := by decide) (he : starEach (e :: es) X.env = (false, eval e X.env) :: starEach es X.env := by rfl) (hpl : (backTo pos (starEach es X.env)).any (·.1) = false := by rfl) :
    PE X (.Call (.Name x p) (e :: es) [] pos) (tMake C sp dvs E t) := by
  intro pins s σ H Q I h
  refine wpAny_Call_Name_kw (ld_glob I hg hm ?_ hdb)
  refine PySem.W.callWith_K (h₀ := X.base) I.ok.mod.kin M.kp (thn (ha pos pins s σ H _ I h) fun us s1 ⟨vs, H1, I1, r, q⟩ => ⟨I1.kIn, ?_⟩) he hpl
  exact run_make M F hr hb hd hx I1 r q
theorem pe_make0 (M : Mk X.K C f) (F : FnOk X.prog X.w X.K X.mg X.base CX k f fd ps sp) (hr : Room (k + 1) X.A) (hg : Gl X x) (hm : X.mg x = some (.ref C)) (hb : Binds X.K fd ps ds) (hd : Vals dvs ds) (hx : Passes CX X E)
    (hdb : (x == ("__debug__" : Str)) = false := by decide) : PE X (.Call (.Name x p) [] [] pos) (tMake C sp dvs E tNil) := by
  intro pins s σ H Q I h
  refine wpAny_Call_Name_kw (ld_glob I hg hm ?_ hdb)
  exact PySem.W.callWith_K0 I.kIn M.kp (run_make (us := []) M F hr hb hd hx I .nil h)
end

/-! ### keywords -/
/-- the values of the keywords, from the left -/
def PK (X : Cx) (kws : List Keyword) (t : TA) : Prop :=
  ∀ (pos : Pos) (pins : List (Addr × Obj)) (s : Shared) (σ : St) (H : Hp) (Q : List V → Hp → Prop), Inv X pins σ H s → t σ H Q → wpAny (model X.prog X.w) X.A (evalAll ((backToKw pos (keywordEach kws X.env)).map (·.2))) (AP X pins σ Q) X.xe s
section
variable {X : Cx} {CX : CXT} {k : Nat} {f C : Addr} {fd : FuncData} {ps ks : List Str} {sp : Sp} {E : XK} {x m : Str} {p pos apos kpos : Pos} {e o : Expr} {es : List Expr} {kws : List Keyword} {te ta : TE} {t tk : TA} {nm : Option Str}
theorem pk_nil : PK X [] tNil := fun _ _ _ _ H Q I h => wpAny_evalAll_nil ⟨[], H, I, .nil, h⟩
theorem pk_cons (ha : PE X e te) (hr : PK X kws t) : PK X (⟨nm, e, kpos⟩ :: kws) (tCons te t) := by
  intro pos pins s σ H Q I h
  show wpAny _ _ (evalAll ((do let v ← eval e X.env; standAt pos; pure v) :: (backToKw pos (keywordEach kws X.env)).map (·.2))) _ _ s
  refine wpAny_evalAll_cons (wpAny_bind (thn (ha pins s σ H _ I h) fun u s1 ⟨x, H1, I1, r1, q1⟩ => wpAny_bind (wpAny_standAt (wpAny_pure ?_))))
  exact thn (hr pos pins s1 σ H1 _ I1 q1) fun us s2 ⟨xs, H2, I2, r2, q2⟩ => ⟨x :: xs, H2, I2, .cons r1 r2, q2⟩

/-- how a call with keywords binds: g puts the positional values us and the keywords' values ws (names ks) in the parameters' order, defaults among them -/
structure KBinds (K : PySem.W.Frag) (fd : FuncData) (ps ks : List Str) (g : List Value → List Value → List Value) (gV : List V → List V → List V) : Prop where
  to : ∀ (s : Shared) (us ws : List Value), K.In s.heap → (g us ws).length = ps.length → BindsTo s fd ⟨us, ks.zip ws⟩ (ps.zip (g us ws))
  rel : ∀ {vs : List V} {us : List Value} {zs : List V} {ws : List Value}, Vals vs us → Vals zs ws → Vals (gV vs zs) (g us ws)
def tCallK (sp : Sp) (gV : List V → List V → List V) (E : XK) (t tk : TA) : TE := fun σ H Q => t σ H fun vs H1 => tk σ H1 fun zs H2 => sp (gV vs zs) H2 Q E
variable {g : List Value → List Value → List Value} {gV : List V → List V → List V}
theorem run_fnk {pins : List (Addr × Obj)} {σ : St} {H : Hp} {s : Shared} {Q : VK} {us ws : List Value} {vs zs : List V} (F : FnOk X.prog X.w X.K X.mg X.base CX k f fd ps sp) (hr : Room k X.A) (hb : KBinds X.K fd ps ks g gV) (hx : Passes CX X E)
    (I : Inv X pins σ H s) (r : Vals vs us) (rz : Vals zs ws) (h : sp (gV vs zs) H Q E) : wpAny (model X.prog X.w) X.A (call (.ref f) us (ks.zip ws)) (EP X pins σ Q) X.xe s := by
  have r2 := hb.rel r rz
  have hl : (g us ws).length = ps.length := by rw [← r2.length]; exact F.len _ _ _ _ h
  refine wpAny_call (codeAny_mono (F.run X.A X.stack s H ⟨us, ks.zip ws⟩ (g us ws) (gV vs zs) Q E hr I.env0 (hb.to s us ws I.kIn hl) r2 h) fun r s' hq => ?_)
  cases r with
  | error e => exact hx pins σ H s e s' I hq
  | ok fl =>
    cases fl with
    | ret u => exact I.after hq
    | next => exact False.elim hq
    | brk => exact False.elim hq
    | cont => exact False.elim hq
/-- f(e, .., k = v, ..) -/
theorem pe_callK (F : FnOk X.prog X.w X.K X.mg X.base CX k f fd ps sp) (hr : Room k X.A) (hg : Gl X x) (hm : X.mg x = some (.ref f)) (hk : PySem.W.keepIn X.K (.ref f) = true) (hb : KBinds X.K fd ps ks g gV) (hx : Passes CX X E)
    (ha : PA X (e :: es) t) (hkw : PK X kws tk) (hall : (backToKw pos (keywordEach kws X.env)).all (·.1.isSome) = true := by rfl) (hks : (backToKw pos (keywordEach kws X.env)).filterMap (·.1) = ks := by rfl)
    (hdb : (x == ("__debug__" : Str)) = false := by decide) (he : starEach (e :: es) X.env = (false, eval e X.env) :: starEach es X.env := by rfl)
    (hpl : ((backTo pos (starEach (e :: es) X.env)).any (·.1) || (backToKw pos (keywordEach kws X.env)).any (·.1.isNone)) = false := by rfl) :
    PE X (.Call (.Name x p) (e :: es) kws pos) (tCallK sp gV E t tk) := by
  intro pins s σ H Q I h
  refine wpAny_Call_Name_kw (ld_glob I hg hm ?_ hdb)
  refine PySem.W.callWith_KW (h₀ := X.base) I.ok.mod.kin hk hall (thn (ha pos pins s σ H _ I h) fun us s1 ⟨vs, H1, I1, r, q⟩ => ?_) hpl he
  refine thn (hkw pos pins s1 σ H1 _ I1 q) fun ws s2 ⟨zs, H2, I2, rz, q2⟩ => ⟨I2.kIn, ?_⟩
  rw [hks]
  exact run_fnk F hr hb hx I2 r rz q2
end

/-! ### a def's body keeps its promise -/
/-- names: the parameters first -/
structure FnScope (N P : List Str) (sc : Scope) : Prop where
  kind : sc.kind = .function
  co : sc.isCoroutine = false
  gen : sc.isGenerator = false
  nd : N.Nodup
  pre : N.take P.length = P
  par : ∀ x ∈ P, sc.names.lookup x = some .local ∨ sc.names.lookup x = some .cell
  nofree : ∀ y ∈ sc.names, y.2 ≠ .free

theorem bindL_out {kindOf : Str → Option NameKind} {x : Str} : ∀ {binds : List (Str × Value)} {m : Str → Option Value}, (∀ v, (x, v) ∉ binds) → bindL kindOf binds m x = m x
  | [], _, _ => rfl
  | (n, v) :: r, m, h => by
    unfold bindL
    rw [bindL_out fun w hw => h w (List.mem_cons_of_mem _ hw)]
    split
    · have : x ≠ n := by rintro rfl; exact h v List.mem_cons_self
      simp [this]
    · rfl
theorem bindC_out {kindOf : Str → Option NameKind} {x : Str} : ∀ {binds : List (Str × Value)} {m : Str → Option Value}, (∀ v, (x, v) ∉ binds) → bindC kindOf binds m x = m x
  | [], _, _ => rfl
  | (n, v) :: r, m, h => by
    unfold bindC
    rw [bindC_out fun w hw => h w (List.mem_cons_of_mem _ hw)]
    split
    · rfl
    · have : x ≠ n := by rintro rfl; exact h v List.mem_cons_self
      simp [this]
theorem bindL_get {kindOf : Str → Option NameKind} {x : Str} {v : Value} : ∀ {P : List Str} {vs : List Value} {i : Nat} {m : Str → Option Value}, P.Nodup → P[i]? = some x → vs[i]? = some v → kindOf x = some .local →
    bindL kindOf (P.zip vs) m x = some v
  | [], _, _, _, _, h, _, _ => by simp at h
  | _ :: _, [], _, _, _, _, h, _ => by simp at h
  | p :: P, w :: vs, 0, m, nd, h1, h2, hk => by
    simp at h1 h2; subst h1; subst h2
    show bindL kindOf ((p, w) :: P.zip vs) m p = _
    unfold bindL
    rw [bindL_out fun v hv => (List.nodup_cons.mp nd).1 (List.of_mem_zip hv).1, if_pos hk]
    simp
  | p :: P, w :: vs, i + 1, m, nd, h1, h2, hk => by
    show bindL kindOf ((p, w) :: P.zip vs) m x = _
    unfold bindL
    exact bindL_get (i := i) (List.nodup_cons.mp nd).2 (by simpa using h1) (by simpa using h2) hk
theorem bindC_get {kindOf : Str → Option NameKind} {x : Str} {v : Value} : ∀ {P : List Str} {vs : List Value} {i : Nat} {m : Str → Option Value}, P.Nodup → P[i]? = some x → vs[i]? = some v → kindOf x ≠ some .local →
    bindC kindOf (P.zip vs) m x = some v
  | [], _, _, _, _, h, _, _ => by simp at h
  | _ :: _, [], _, _, _, _, h, _ => by simp at h
  | p :: P, w :: vs, 0, m, nd, h1, h2, hk => by
    simp at h1 h2; subst h1; subst h2
    show bindC kindOf ((p, w) :: P.zip vs) m p = _
    unfold bindC
    rw [bindC_out fun v hv => (List.nodup_cons.mp nd).1 (List.of_mem_zip hv).1, if_neg hk]
    simp
  | p :: P, w :: vs, i + 1, m, nd, h1, h2, hk => by
    show bindC kindOf ((p, w) :: P.zip vs) m x = _
    unfold bindC
    exact bindC_get (i := i) (List.nodup_cons.mp nd).2 (by simpa using h1) (by simpa using h2) hk

/-- the names' values at the entry -/
def start (N : List Str) (vs : List V) : St := vs.map some ++ List.replicate (N.length - vs.length) none

/-- the context of a def's body, at its entry; an exception leaves the frame, then lies as CX says -/
def cxOf (CX : CXT) (P : Program) (w : World) (K : PySem.W.Frag) (mg : Str → Option Value) (base : Heap) (N : List Str) (qual : Str) (scope : Scope) (f : Addr) (cd : Value) (A : Around) (outer : List Env) (s : Shared) (H : Hp) (E : XK) : Cx where
  prog := P
  w := w
  K := K
  mg := mg
  base := base
  A := A.deeper (envOfC qual scope s.heap.objs.size f cd)
  N := N
  s₀ := s
  H₀ := H
  env := envOfC qual scope s.heap.objs.size f cd
  outer := outer
  stack := envOfC qual scope s.heap.objs.size f cd :: outer
  ex := []
  calm := true
  fn := fun _ => true
  pn := []
  xe := fun e s' => wpAny (model P w) (A.deeper (envOfC qual scope s.heap.objs.size f cd)) (leaving (envOfC qual scope s.heap.objs.size f cd) e) (fun _ s'' => CX outer H s E e s'') (fun e' s'' => CX outer H s E e' s'') s'

theorem cell_has {sc : Scope} {n : Nat} {x : Str} (h : sc.names.lookup x = some .cell) : ∃ c, (cellsFrom n sc.names []).lookup x = some c := by
  have q := PySem.W.cellsFrom_some sc.names n [] (.inl h)
  exact Option.isSome_iff_exists.mp q

theorem inv_start {CX : CXT} {P : Program} {w : World} {K : PySem.W.Frag} {mg : Str → Option Value} {base : Heap} {N ps : List Str} {qual : Str} {scope : Scope} {f : Addr} {cd : Value} {A : Around} {outer : List Env} {s s1 : Shared} {H : Hp} {E : XK} {us : List Value} {vs : List V}
    (S : FnScope N ps scope) (hd : A.handled = none) (e0 : Env0 P w K mg base A outer s H) (hl : vs.length = ps.length) (r : Vals vs us)
    (x : InCallC s s.heap.objs.size (bindL (envOfC qual scope s.heap.objs.size f cd).kindOf (ps.zip us) fun _ => none) (cellsFrom (s.heap.objs.size + 1) scope.names []) (bindC (envOfC qual scope s.heap.objs.size f cd).kindOf (ps.zip us) fun _ => none) s1) :
    Inv (cxOf CX P w K mg base N qual scope f cd A outer s H E) [] (start N vs) H s1 := by
  have hpl : ps.length ≤ N.length := by have := congrArg List.length S.pre; rw [List.length_take] at this; omega
  obtain ⟨h1, tk, rfl, hk⟩ := x.done
  have noA : ∀ b : Addr, b ∉ (cxOf CX P w K mg base N qual scope f cd A outer s H E).ex := fun b z => absurd (show b ∈ ([] : List Addr) from z) (by simp)
  refine ⟨⟨e0.mod, S.kind, rfl, rfl, Nat.le_refl _, fun y z c h1 h2 => ?_, fun y hy => ?_, fun y c _ h => ?_, fun _ => hd, Around.frames_deeper e0.frames, .inr ⟨rfl, rfl⟩, fun b z => absurd z (noA b), e0.bs, e0.bsz, fun b _ _ => noA b, fun b z => absurd z (noA b), e0.funs, e0.frf⟩,
    rfl, e0.bare, Un.kept hk, ⟨_, x.toInCall.ns, fun i y v h1 h2 h3 => ?_⟩, fun y c h => ⟨_, x.cell y c h⟩, e0.hok.fresh (Nat.le_refl _), fun y c h => ?_, fun p hp => absurd (show p ∈ ([] : List (Addr × Obj)) from hp) (by simp), e0.hok.kept hk, ?_⟩
  · exact name_of_addr x.apart (PySem.mem_of_lookup h1) (PySem.mem_of_lookup h2)
  · have hy : scope.names.lookup y = some .cell ∨ scope.names.lookup y = some .free := hy
    rcases hy with hy | hy
    · exact cell_has hy
    · exact absurd rfl (S.nofree _ (PySem.mem_of_lookup hy))
  · exact Nat.le_of_lt (x.above y c (PySem.mem_of_lookup h))
  · have hi : i < vs.length := by
      unfold start at h2
      by_cases hi : i < vs.length
      · exact hi
      · rw [List.getElem?_append_right (by simpa using hi)] at h2
        rw [List.getElem?_replicate] at h2
        split at h2 <;> cases h2
    have ha : vs[i]? = some v := by
      unfold start at h2
      rw [List.getElem?_append_left (by simpa using hi), List.getElem?_map] at h2
      cases e : vs[i]? with
      | none => rw [e] at h2; cases h2
      | some a => rw [e] at h2; cases h2; rfl
    obtain ⟨u, hu, rv⟩ := r.get ha
    have hp : ps[i]? = some y := by
      rw [← S.pre, List.getElem?_take_of_lt (by omega)]; exact h1
    have ndP : ps.Nodup := by rw [← S.pre]; exact S.nd.sublist (List.take_sublist _ _)
    refine ⟨u, rv, ?_⟩
    rcases S.par y (List.mem_of_getElem? hp) with k | k
    · exact .inl ⟨k, bindL_get ndP hp hu k⟩
    · obtain ⟨c, e⟩ := cell_has (n := s.heap.objs.size + 1) k
      refine .inr ⟨.inl k, c, e, ?_⟩
      have q := x.cell y c e
      rw [bindC_get ndP hp hu (by show scope.names.lookup y ≠ _; rw [k]; decide)] at q
      exact q
  · exact e0.hok.fresh (Nat.le_of_lt (x.above y c (PySem.mem_of_lookup h)))
  · unfold start
    show _ = N.length
    rw [List.length_append, List.length_map, List.length_replicate]
    omega

/-- THE RULE: a def (or a method) of the text, by its body. The body's reading t is chosen for each entry; it is run at the parameters' values -/
theorem fn_of {CX : CXT} {P : Program} {w : World} {K : PySem.W.Frag} {mg : Str → Option Value} {base : Heap} {k : Nat} {f : Addr} {name qual : Str} {params : Arguments} {body : List Stmt} {scope : Scope} {dV kV doc pm cdv ct oc : Value} {an od : Option Addr}
    {osl : Array (Option Value)} {N ps : List Str} {sp : Sp} (lk : K.lookup f = some ⟨oc, od, .func (PySem.W.fnOf name qual params body scope dV kV doc pm an cdv ct), osl⟩) (hcd : PySem.W.codeIn K cdv qual = true) (S : FnScope N ps scope)
    (len : ∀ vs H Q E, sp vs H Q E → vs.length = ps.length)
    (hbody : ∀ (A : Around) (outer : List Env) (s : Shared) (H : Hp) (vs : List V) (Q : VK) (E : XK), Room k (A.deeper (envOfC qual scope s.heap.objs.size f cdv)) → sp vs H Q E →
      ∃ t, PSs (cxOf CX P w K mg base N qual scope f cdv A outer s H E) body t ∧ t { nx := fun _ H' => Q .non H', rt := Q } (start N vs) H) :
    FnOk P w K mg base CX (k + 1) f (PySem.W.fnOf name qual params body scope dV kV doc pm an cdv ct) ps sp := by
  refine ⟨len, fun A outer s H args us vs Q E hr e0 hb r hsp => ?_⟩
  have hl := len _ _ _ _ hsp
  have KX : K.In s.heap := e0.mod.kin.keeps fun b o e => (e0.bs b o e).1
  have lim : s.heap.NoLimit := e0.mod.nolimit.keeps fun b o e => (e0.bs b o e).1
  have hkind : ∀ y ∈ ps.zip us, scope.names.lookup y.1 = some .local ∨ (scope.names.lookup y.1 = some .cell ∧ ((cellsFrom (s.heap.objs.size + 1) scope.names []).lookup y.1).isSome = true) := fun ⟨n, v⟩ hy => by
    rcases S.par n (List.of_mem_zip hy).1 with q | q
    · exact .inl q
    · exact .inr ⟨q, PySem.W.cellsFrom_some _ _ _ (.inl q)⟩
  refine codeAny_call_function hr.depth (KX _ _ lk) rfl S.co S.gen rfl (PySem.W.codeRec_of KX hcd) (hb _ _ _ _ ?_)
  refine wpAny_newFunctionEnv_cells S.kind hkind fun env he s1 x => ?_
  subst he
  refine ⟨lim.keeps x.toInCall.keep, codeAny_func ?_⟩
  obtain ⟨t, ht, hq⟩ := hbody A outer s H vs Q E (hr.deeper _) hsp
  have I : Inv (cxOf CX P w K mg base N qual scope f cdv A outer s H E) [] (start N vs) H s1 := inv_start S hr.hd e0 hl r x
  refine wpAny_mono (ht [] s1 (start N vs) H _ I hq) (fun fl s' hs => ?_) fun e s' hs => hs
  have fin : ∀ {σ' : St} {H' : Hp} {v : V} {u : Value}, Inv (cxOf CX P w K mg base N qual scope f cdv A outer s H E) [] σ' H' s' → RelV v u → Q v H' → CE outer P w H s Q u s' :=
    fun {σ' H' v u} J rv q => ⟨v, H', J.os, J.bare, J.base, J.hok, rv, q⟩
  cases fl with
  | ret u =>
    obtain ⟨v, σ', H', J, rv, q⟩ := hs
    exact fin J rv q
  | next =>
    obtain ⟨σ', H', J, q⟩ := hs
    exact fin (v := V.non) (u := Value.none) J rfl q
  | brk =>
    obtain ⟨_, _, _, q⟩ := hs
    exact False.elim q
  | cont =>
    obtain ⟨_, _, _, q⟩ := hs
    exact False.elim q
end L2

namespace L2
open PySem PySem.Spec PyProof.Rows
section
variable {X : Cx} {x : Str} {p pos : Pos} {e : Expr} {es : List Expr} {t : TA} {id T : String} {r : List V → Hp → VK → Prop}

def tCB (r : List V → Hp → VK → Prop) (t : TA) : TE := fun σ H Q => t σ H fun vs H1 => r vs H1 Q
/-- f(e, ..), f a built-in function -/
theorem pe_callB (hc : CallR X (.builtin id) r) (hg : Gl X x) (hm : X.mg x = none) (hv : bootBuiltins x = some (.builtin id)) (ha : PA X (e :: es) t) (hn : x ≠ "__name__" := by decide) (hdb : (x == ("__debug__" : Str)) = false := by decide)
    (he : starEach (e :: es) X.env = (false, eval e X.env) :: starEach es X.env := by rfl) (hpl : (backTo pos (starEach es X.env)).any (·.1) = false := by rfl) : PE X (.Call (.Name x p) (e :: es) [] pos) (tCB r t) := by
  intro pins s σ H Q I h
  refine wpAny_Call_Name_kw (ld_blt I hg hm hv ?_ hn hdb)
  exact PyProof.Rows.callWith_builtin1 (thn (ha pos pins s σ H _ I h) fun us s1 ⟨vs, H1, I1, r1, q1⟩ => hc pins s1 σ H1 vs us Q I1 r1 q1) he hpl
/-- T(e, ..), T a built-in type -/
theorem pe_callTy (hc : CallR X (.type T) r) (hg : Gl X x) (hm : X.mg x = none) (hv : bootBuiltins x = some (.type T)) (ha : PA X (e :: es) t) (hn : x ≠ "__name__" := by decide) (hdb : (x == ("__debug__" : Str)) = false := by decide)
    (he : starEach (e :: es) X.env = (false, eval e X.env) :: starEach es X.env := by rfl) (hpl : (backTo pos (starEach es X.env)).any (·.1) = false := by rfl) : PE X (.Call (.Name x p) (e :: es) [] pos) (tCB r t) := by
  intro pins s σ H Q I h
  refine wpAny_Call_Name_kw (ld_blt I hg hm hv ?_ hn hdb)
  exact PyProof.Rows.callWith_type1 (thn (ha pos pins s σ H _ I h) fun us s1 ⟨vs, H1, I1, r1, q1⟩ => hc pins s1 σ H1 vs us Q I1 r1 q1) he hpl
/-- T() -/
theorem pe_callTy0 (hc : CallR X (.type T) r) (hg : Gl X x) (hm : X.mg x = none) (hv : bootBuiltins x = some (.type T)) (hn : x ≠ "__name__" := by decide) (hdb : (x == ("__debug__" : Str)) = false := by decide) :
    PE X (.Call (.Name x p) [] [] pos) (tCB r tNil) := by
  intro pins s σ H Q I h
  refine wpAny_Call_Name_kw (ld_blt I hg hm hv ?_ hn hdb)
  exact PyProof.Rows.callWith_type0 (hc pins s σ H [] [] Q I .nil h)
end
end L2

namespace HT
open PySem PyProof.Rows

/-- t < u of tuples of ints -/
def lexLt : List Int → List Int → Bool
  | [], [] => false
  | [], _ :: _ => true
  | _ :: _, [] => false
  | x :: xs, y :: ys => if x = y then lexLt xs ys else decide (x < y)
theorem lexLt_cons (x y : Int) (xs ys : List Int) : lexLt (x :: xs) (y :: ys) = if x = y then lexLt xs ys else decide (x < y) := rfl
theorem lexLt_nil_nil : lexLt [] [] = false := rfl
theorem lexLt_nil_cons (y : Int) (ys : List Int) : lexLt [] (y :: ys) = true := rfl
theorem lexLt_cons_nil (x : Int) (xs : List Int) : lexLt (x :: xs) [] = false := rfl

theorem eqAt_int (A : Around) (s : Shared) (a : Int) (t : Tok) (c : Int) (u : Tok) : ∃ e, SeqAt.EqAt A s (.int a t) (.int c u) e ∧ (e = true ↔ a = c) :=
  ⟨(a == c), SeqAt.EqAt.int_int a t c u, by simp⟩
theorem rcLt_int (A : Around) (s : Shared) (a : Int) (t : Tok) (c : Int) (u : Tok) (prog : Program) (w : World) (E : Value → Shared → Prop) (Q : Value → Shared → Prop) (h : Q (.bool (decide (a < c))) s) :
    wpAny (model prog w) A (richCompare .Lt (.int a t) (.int c u)) Q E s :=
  (PyProof.Rows.lt_int h : wpAny (model prog w) A (compareOp .Lt (.int a t) (.int c u)) Q E s)

section
open PySem.SeqAt
open PySem.AutoSeq1 (wpAny_loadPart')
open PySem.MeetsSeq PySem.MeetsSeq2 PySem.MeetsSeq3

theorem tuple_lt_ints (l b : Addr) (items items2 : Array Value) (n n2 : Nat) (dd dd2 : Option Addr) (sl sl2 : Array (Option Value)) (ns ms : List Int) (hi : IntsAre items.toList ns) (hj : IntsAre items2.toList ms) :
    Meets (Builtin.«tuple.__lt__» ⟨[.ref l, .ref b], []⟩)
      (fun _ R s => s.heap.get? l = some { cls := .type "tuple", dict := dd, data := .seq items n, slots := sl } ∧ s.heap.get? b = some { cls := .type "tuple", dict := dd2, data := .seq items2 n2, slots := sl2 } ∧
        R (.ok (.ret (.bool (lexLt ns ms)))) s) :=
  .of_wp fun prog w A R s h => by
    obtain ⟨hp, g, d, tk, os⟩ := s; obtain ⟨hl, hb, h⟩ := h
    have f2 := AutoSeq1.sub_tuple_tuple
    have z1 : items.size = ns.length := by rw [← hi.length]; simp
    have z2 : items2.size = ms.length := by rw [← hj.length]; simp
    wp_walk using wpAny_loadPart' hl, wpAny_loadPart' hb, wpAny_forIn_list _ (fun rest b s' => b.1 = none ∧ s' = ⟨hp, g, d, tk, os⟩ ∧ ∃ (vs ws : List Value) (ns' ms' : List Int), rest = vs.zip ws ∧
      IntsAre vs ns' ∧ IntsAre ws ms' ∧ ns'.length + items2.size = ms'.length + items.size ∧ R (.ok (.ret (.bool (lexLt ns' ms')))) ⟨hp, g, d, tk, os⟩) _
    case turn =>
      rintro ⟨y, x⟩ rest b s' ⟨hb', rfl, vs, ws, ns', ms', hz, hvi, hwi, hlen, hR⟩
      cases hvi with
      | nil => rw [List.zip_nil_left] at hz; cases hz
      | cons a t hvi' =>
        cases hwi with
        | nil => rw [List.zip_nil_right] at hz; cases hz
        | cons c u hwi' =>
          rw [List.zip_cons_cons] at hz
          injection hz with hyx hrest
          injection hyx with hy hx
          subst hy hx
          rw [lexLt_cons] at hR
          simp only [List.length_cons] at hlen
          obtain ⟨e, he, hiff⟩ := eqAt_int A.in1 ⟨hp, g, d, tk, os⟩ a t c u
          refine wpAny_bind (he prog w _ _ ?_)
          cases e with
          | true =>
            rw [if_pos (hiff.mp rfl)] at hR
            wp_walk
            exact ⟨rfl, rfl, _, _, _, _, hrest, hvi', hwi', by omega, hR⟩
          | false =>
            rw [if_neg (fun q => absurd (hiff.mpr q) Bool.false_ne_true)] at hR
            have hri := rcLt_int A.in1 ⟨hp, g, d, tk, os⟩ a t c u prog w
            wp_walk using hri
            exact ⟨_, rfl, by simpa using hR⟩
    case fin =>
      rintro ⟨b1, b2⟩ s' ⟨hb', rfl, vs, ws, ns', ms', hz, hvi, hwi, hlen, hR⟩
      simp only at hb'
      subst hb'
      have hv : lexLt ns' ms' = decide (items.size < items2.size) := by
        cases hvi with
        | nil =>
          cases hwi with
          | nil =>
            simp only [List.length_nil] at hlen
            rw [lexLt_nil_nil]
            exact (decide_eq_false (by omega)).symm
          | cons c u hw =>
            simp only [List.length_nil, List.length_cons] at hlen
            rw [lexLt_nil_cons]
            exact (decide_eq_true (by omega)).symm
        | cons a t hv =>
          cases hwi with
          | nil =>
            simp only [List.length_nil, List.length_cons] at hlen
            rw [lexLt_cons_nil]
            exact (decide_eq_false (by omega)).symm
          | cons c u hw =>
            rw [List.zip_cons_cons] at hz
            cases hz
      rw [hv] at hR
      wp_walk
      exact ⟨_, rfl, by simpa [Builtin.Tuple.tupleCompareSizes] using hR⟩
    case h =>
      exact ⟨rfl, rfl, items.toList, items2.toList, ns, ms, rfl, hi, hj, by omega, h⟩
end

section
variable {prog : Program} {w : World} {A : Around} {E : Value → Shared → Prop} {s : Shared}

theorem lt_tupInts {l b : Addr} {items items2 : Array Value} {ns ms : List Int} {Q : Value → Shared → Prop} (hl : IsTup s.heap l items) (hb : IsTup s.heap b items2) (hi : IntsAre items.toList ns) (hj : IntsAre items2.toList ms)
    (hu : A.units < cLine) (h : Q (.bool (lexLt ns ms)) s) : wpAny (model prog w) A (compareOp .Lt (.ref l) (.ref b)) Q E s := by
  obtain ⟨⟨cls, dd, data, sl⟩, ho, hc, n, hd⟩ := id hl
  obtain ⟨⟨cls2, dd2, data2, sl2⟩, ho2, hc2, n2, hd2⟩ := id hb
  simp only at hc hd hc2 hd2
  subst hc hd hc2 hd2
  exact richCompare_meets_room (op := .Lt) ⟨_, ho, rfl⟩ ⟨_, ho2, rfl⟩ PySem.F.slot_tuple_lt PySem.F.entry_tuple_lt (PySem.F.args_tuple_lt_2 _ _) (tuple_lt_ints l b items items2 n n2 dd dd2 sl sl2 ns ms hi hj)
    ⟨ho, ho2, show Value.bool (lexLt ns ms) ≠ Value.notImplemented ∧ Q (.bool (lexLt ns ms)) s from ⟨(fun x => nomatch x), h⟩⟩ hu

/-- t + u, t not empty -/
theorem cat_tup {t b : Addr} {vs ws : List Value} {Q : Value → Shared → Prop} (ht : IsTup s.heap t vs.toArray) (hb : IsTup s.heap b ws.toArray) (hv : vs ≠ [])
    (h1 : ws = [] → Q (.ref t) s) (h2 : ws ≠ [] → Q (.ref s.heap.objs.size) { s with heap := s.heap.push { cls := .type "tuple", data := .seq (vs ++ ws).toArray } })
    (hsz : vs.length + ws.length ≤ sizeLine) : wpAny (model prog w) A (binaryOp .Add (.ref t) (.ref b)) Q E s := by
  obtain ⟨⟨cls, dd, data, sl⟩, ho, hc, n, hd⟩ := id ht
  obtain ⟨⟨cls2, dd2, data2, sl2⟩, ho2, hc2, n2, hd2⟩ := id hb
  simp only at hc hd hc2 hd2
  subst hc hd hc2 hd2
  have e : vs.toArray ++ ws.toArray = (vs ++ ws).toArray := by simp
  by_cases hw : ws = []
  · exact concat_meets ⟨_, ho, rfl⟩ ⟨_, ho2, rfl⟩ noFill_tuple_add seq_tuple_add PySem.F.slot_tuple_add PySem.F.entry_tuple_add (PySem.F.args_tuple_add_2 _ _)
      (tuple_addW1 t b vs.toArray ws.toArray n n2 dd dd2 sl sl2 (by simpa using hv) (by simp [hw])) ⟨ho, ho2, h1 hw⟩
  · refine concat_meets ⟨_, ho, rfl⟩ ⟨_, ho2, rfl⟩ noFill_tuple_add seq_tuple_add PySem.F.slot_tuple_add PySem.F.entry_tuple_add (PySem.F.args_tuple_add_2 _ _)
      (tuple_addW2 t b vs.toArray ws.toArray n n2 dd dd2 sl sl2 (by simpa using hv) (by simpa using hw) (by rw [List.size_toArray, List.size_toArray]; exact hsz)) ⟨ho, ho2, ?_⟩
    rw [e]
    exact h2 hw

/-! ### t[a:b], not the whole -/
/-- a slice's bound as a place among n (d where it is left out) -/
def sIx (n d : Nat) : Option Int → Nat
  | none => d
  | some v => if v < 0 then (v + (n : Int)).toNat else min v.toNat n
theorem sIx_none (n d : Nat) : sIx n d none = d := rfl
theorem sIx_nat (n d k : Nat) : sIx n d (some (k : Int)) = min k n := by
  show (if (k : Int) < 0 then ((k : Int) + (n : Int)).toNat else min (k : Int).toNat n) = min k n
  rw [if_neg (by omega), Int.toNat_natCast]
theorem sIx_le (n d : Nat) (hd : d ≤ n) (o : Option Int) : sIx n d o ≤ n := by
  cases o with
  | none => exact hd
  | some v =>
    show (if v < 0 then (v + (n : Int)).toNat else min v.toNat n) ≤ n
    by_cases hv : v < 0
    · rw [if_pos hv]; omega
    · rw [if_neg hv]; exact Nat.min_le_right _ _
theorem clip_eq (v : Int) (n d : Nat) : (if v < 0 then max (v + (n : Int)) 0 else min v (n : Int)) = ((sIx n d (some v) : Nat) : Int) := by
  show (if v < 0 then max (v + (n : Int)) 0 else min v (n : Int)) = (((if v < 0 then (v + (n : Int)).toNat else min v.toNat n) : Nat) : Int)
  by_cases hv : v < 0
  · simp only [if_pos hv]; omega
  · simp only [if_neg hv]; omega
theorem adjust_gen (lo hi : Option Int) (n : Nat) : Builtin.Slice.sliceAdjust lo hi 1 (n : Int) = (((sIx n 0 lo : Nat) : Int), ((sIx n n hi : Nat) : Int)) := by
  have h1 : ¬ ((1 : Int) < 0) := by omega
  unfold Builtin.Slice.sliceAdjust
  simp only [h1, if_false]
  refine Prod.ext ?_ ?_
  · cases lo with
    | none => rfl
    | some v => exact clip_eq v n 0
  · cases hi with
    | none => rfl
    | some v => exact clip_eq v n n
theorem places_gen (i j : Nat) : Builtin.Slice.slicePlaces (i : Int) (j : Int) 1 = j - i := by
  unfold Builtin.Slice.slicePlaces
  have h1 : (1 : Int) > 0 := by omega
  simp only [h1, if_true, Int.ediv_one]
  split <;> omega
theorem slicePart_ {v : Value} {o : Option Int} {Q : Option Int → Shared → Prop} (p : IsPart v o) (h : Q o s) : wpAny (model prog w) A (Builtin.Slice.slicePartIndex v) Q E s := by
  cases p with
  | none => exact slicePart_none h
  | int i t => exact slicePart_int h
theorem sliceApplied_gen {sl : Addr} {vl vu : Value} {lo hi : Option Int} {n : Nat} {Q : Int × Int × Nat → Shared → Prop} (hs : s.heap.IsSliceOf sl vl vu .none) (pl : IsPart vl lo) (pu : IsPart vu hi)
    (h : Q (((sIx n 0 lo : Nat) : Int), 1, sIx n n hi - sIx n 0 lo) s) : wpAny (model prog w) A (Builtin.Slice.sliceApplied (.ref sl) (pure (n : Int))) Q E s := by
  obtain ⟨os, hos, hcs, hds⟩ := id hs
  unfold Builtin.Slice.sliceApplied Builtin.Slice.sliceFields
  refine wpAny_bind (wpAny_bind (wpAny_field hos hds (x := vl) rfl (wpAny_bind (wpAny_field hos hds (x := vu) rfl (wpAny_bind (wpAny_field hos hds (x := .none) rfl (wpAny_pure ?_)))))))
  refine wpAny_bind (slicePart_none ?_)
  show wpAny _ _ (if ((1 : Int) == 0) = true then _ else _) _ _ s
  rw [if_neg (by decide)]
  refine wpAny_bind (slicePart_ pl (wpAny_bind (slicePart_ pu (wpAny_bind (wpAny_pure ?_)))))
  show wpAny _ _ (match Builtin.Slice.sliceAdjust lo hi 1 (n : Int) with | (lo, hi) => pure (lo, (1 : Int), Builtin.Slice.slicePlaces lo hi 1)) _ _ s
  rw [adjust_gen lo hi n]
  show wpAny _ _ (pure (((sIx n 0 lo : Nat) : Int), (1 : Int), Builtin.Slice.slicePlaces ((sIx n 0 lo : Nat) : Int) ((sIx n n hi : Nat) : Int) 1)) _ _ s
  rw [places_gen]
  exact wpAny_pure h
theorem pick_gen (xs : Array Value) (i k : Nat) : ((List.range k).filterMap fun (m : Nat) => xs[((i : Int) + (m : Int) * 1).toNat]?).toArray = ((xs.toList.drop i).take k).toArray := by
  have e : (fun (m : Nat) => xs[((i : Int) + (m : Int) * 1).toNat]?) = fun m => xs[i + m]? := by
    funext m
    have : ((i : Int) + (m : Int) * 1).toNat = i + m := by omega
    rw [this]
  rw [e]
  have := pick_run xs i k
  rw [List.filterMap_map] at this
  have e2 : ((fun x => xs[x]?) ∘ fun x => i + x) = fun m => xs[i + m]? := rfl
  rw [e2] at this
  rw [this]

theorem getItem_tuple_cut {t sl : Addr} {items : Array Value} {vl vu : Value} {lo hi : Option Int} {Q : Value → Shared → Prop} (ht : IsTup s.heap t items) (hs : s.heap.IsSliceOf sl vl vu .none) (pl : IsPart vl lo) (pu : IsPart vu hi)
    (hw : ¬ (sIx items.size 0 lo = 0 ∧ sIx items.size items.size hi = items.size))
    (h : Q (.ref s.heap.objs.size) { s with heap := s.heap.push { cls := .type "tuple", data := .seq ((items.toList.drop (sIx items.size 0 lo)).take (sIx items.size items.size hi - sIx items.size 0 lo)).toArray } })
    (hsz : items.size ≤ sizeLine) : wpAny (model prog w) A (getItem (.ref t) (.ref sl)) Q E s := by
  have htake : sizeOk (.seq ((items.toList.drop (sIx items.size 0 lo)).take (sIx items.size items.size hi - sIx items.size 0 lo)).toArray) := by
    show ((items.toList.drop (sIx items.size 0 lo)).take (sIx items.size items.size hi - sIx items.size 0 lo)).toArray.size ≤ sizeLine
    rw [List.size_toArray, List.length_take, List.length_drop, Array.length_toList]
    omega
  have hj : sIx items.size items.size hi ≤ items.size := sIx_le _ _ (Nat.le_refl _) hi
  obtain ⟨os, hos, hcs, hds⟩ := id hs
  have hTs : s.TypeIs (.ref sl) "slice" := ⟨os, hos, hcs⟩
  unfold getItem
  try with_reducible refine wpAny_holding ?_
  first | refine wpAny_bind (wpAny_pure ?_) | skip
  refine wpAny_bind (wpAny_sequenceKey ht.typeIs (by decide) ?_)
  refine wpAny_bind (wpAny_callSpecial?_slot (name := Str.ofString "__getitem__") ht.typeIs PyProof.Rows.slot_tuple_getitem
    (wpAny_call_entry PyProof.Rows.slot_tuple_getitem ht.typeIs entry_tuple_getitem ?_ (args_tuple_getitem _ _)))
  show wpAny _ _ (Builtin.Tuple.tupleItemsOf (.ref t) >>= _) _ _ s
  refine wpAny_bind (tupleItemsOf_ ht ?_)
  refine wpAny_bind (wpAny_typeOf hTs ?_)
  rw [if_pos (by decide)]
  refine wpAny_bind (sliceApplied_gen hs pl pu ?_)
  have hno : ¬ ((((sIx items.size 0 lo : Nat) : Int) == 0 && (1 : Int) == 1 && (sIx items.size items.size hi - sIx items.size 0 lo) == items.size) = true) := by
    intro q
    rw [Bool.and_eq_true, Bool.and_eq_true] at q
    have q1 : ((sIx items.size 0 lo : Nat) : Int) = 0 := eq_of_beq q.1.1
    have q2 : sIx items.size items.size hi - sIx items.size 0 lo = items.size := eq_of_beq q.2
    exact hw ⟨by omega, by omega⟩
  show wpAny _ _ (if (((sIx items.size 0 lo : Nat) : Int) == 0 && (1 : Int) == 1 && (sIx items.size items.size hi - sIx items.size 0 lo) == items.size) = true then _ else _) _ _ s
  rw [if_neg hno, pick_gen]
  first
    | exact wpAny_bind (m := Builtin.Tuple.tupleExact _) (wpAny_newObj_type (wpAny_pure ⟨_, rfl, wpAny_pure h⟩) htake)
    | exact wpAny_bind (m := Builtin.Tuple.tupleExact _) (wpAny_newObj_type (wpAny_bind (wpAny_pure (wpAny_pure ⟨_, rfl, wpAny_pure h⟩))) htake)
    | exact wpAny_bind (wpAny_bind (m := Builtin.Tuple.tupleExact _) (wpAny_newObj_type (wpAny_pure (wpAny_pure ⟨_, rfl, wpAny_pure h⟩)) htake))
    | exact wpAny_bind (wpAny_bind (m := Builtin.Tuple.tupleExact _) (wpAny_newObj_type (wpAny_pure ⟨_, rfl, wpAny_pure h⟩) htake))
end
end HT

namespace L2
open PySem PySem.Spec PyProof.Rows

/-! ### the parts of a slice -/
abbrev TO := St → Hp → (Option Int → Hp → Prop) → Prop
/-- a slice's part (left out, or an int) -/
def PO (X : Cx) (e : Option Expr) (t : TO) : Prop :=
  ∀ (pins : List (Addr × Obj)) (s : Shared) (σ : St) (H : Hp) (Q : Option Int → Hp → Prop), Inv X pins σ H s → t σ H Q →
    wpAny (model X.prog X.w) X.A (evalPart e X.env) (fun u s' => ∃ o H', Inv X pins σ H' s' ∧ IsPart u o ∧ Q o H') X.xe s
def tNoPart : TO := fun _ H Q => Q none H
def tPart (t : TE) : TO := fun σ H Q => t σ H fun x H1 => ∃ i, x = .int i ∧ Q (some i) H1

theorem intsAre_of {ns : List Int} : ∀ {us : List Value}, Vals (ns.map V.int) us → IntsAre us ns := by
  induction ns with
  | nil => intro us r; rw [List.map_nil] at r; cases r; exact .nil
  | cons n ns ih =>
    intro us r
    rw [List.map_cons] at r
    cases r with
    | cons r1 r2 =>
      obtain ⟨t, e⟩ := r1
      subst e
      exact .cons n t (ih r2)

section
variable {X : Cx} {e : Expr} {te : TE} {lo hi : Option Expr} {tl th : TO} {pos p2 : Pos}

theorem po_none : PO X none tNoPart := by
  intro pins s σ H Q I h
  rw [evalPart_none]
  exact wpAny_pure ⟨none, H, I, .none, h⟩
theorem po_some (h : PE X e te) : PO X (some e) (tPart te) := by
  intro pins s σ H Q I hw
  rw [evalPart_some]
  refine thn (h pins s σ H _ I hw) fun u s1 ⟨x, H1, I1, r1, q1⟩ => ?_
  obtain ⟨i, rfl, q⟩ := q1
  obtain ⟨t, rfl⟩ := r1
  exact ⟨some i, H1, I1, .int i t, q⟩

/-- what a slice of a value is, by values: the slice object stands at sl -/
def SlR (X : Cx) (r : V → Option Int → Option Int → Hp → VK → Prop) : Prop :=
  ∀ (pins : List (Addr × Obj)) (s : Shared) (σ : St) (H : Hp) (x : V) (v vl vu : Value) (lo hi : Option Int) (sl : Addr) (Q : VK), Inv X pins σ H s → RelV x v → s.heap.IsSliceOf sl vl vu .none → IsPart vl lo → IsPart vu hi → r x lo hi H Q →
    ∃ T id, typeLookup (.type T) "__getitem__" = pure (some (.builtin id)) ∧ s.TypeIs v T ∧ wpAny (model X.prog X.w) X.A (getItem v (.ref sl)) (EP X pins σ Q) X.xe s
theorem SlR.or {r r' : V → Option Int → Option Int → Hp → VK → Prop} (h : SlR X r) (h' : SlR X r') : SlR X (fun x lo hi H Q => r x lo hi H Q ∨ r' x lo hi H Q) := by
  intro pins s σ H x v vl vu lo hi sl Q I rx hs pl pu q
  rcases q with q | q
  · exact h pins s σ H x v vl vu lo hi sl Q I rx hs pl pu q
  · exact h' pins s σ H x v vl vu lo hi sl Q I rx hs pl pu q
def tSl (r : V → Option Int → Option Int → Hp → VK → Prop) (te : TE) (tl th : TO) : TE := fun σ H Q => te σ H fun x H1 => tl σ H1 fun l H2 => th σ H2 fun u H3 => r x l u H3 Q
/-- a[lo:hi], any a -/
theorem pe_slice {r : V → Option Int → Option Int → Hp → VK → Prop} (hr : SlR X r) (he : PE X e te) (hl : PO X lo tl) (hu : PO X hi th) : PE X (.Subscript e (.Slice lo hi none p2) pos) (tSl r te tl th) := by
  intro pins s σ H Q I h
  refine Subscript_ (thn (he pins s σ H _ I h) fun v s1 ⟨x, H1, I1, r1, q1⟩ => ?_)
  refine wpAny_Slice (thn (hl pins s1 σ H1 _ I1 q1) fun vl s2 ⟨l, H2, I2, pl, q2⟩ => thn (hu pins s2 σ H2 _ I2 q2) fun vu s3 ⟨u, H3, I3, pu, q3⟩ => ?_)
  rw [evalPart_none]
  refine wpAny_pure ?_
  have I4 : Inv X pins σ H3 { s3 with heap := s3.heap.push { cls := .type "slice", data := .fields #[vl, vu, .none] } } := I3.kept (t' := s3.toks) fun b ob q => Heap.get?_push_of_some _ q
  obtain ⟨T, id, hT, ht, hg⟩ := hr pins { s3 with heap := s3.heap.push { cls := .type "slice", data := .fields #[vl, vu, .none] } } σ H3 x v vl vu l u s3.heap.objs.size Q I4 r1 (Heap.IsSliceOf.new ..) pl pu q3
  show wpAny (model X.prog X.w) X.A (subscriptTail e (.Slice lo hi none p2) v (.ref s3.heap.objs.size)) (EP X pins σ Q) X.xe { s3 with heap := s3.heap.push { cls := .type "slice", data := .fields #[vl, vu, .none] } }
  exact tail_any (ops := [.ref s3.heap.objs.size, v]) ht hT hg (by with_unfolding_all rfl)

/-- the items of xs[lo:hi] -/
def cutV (xs : List V) (lo hi : Option Int) : List V := (xs.drop (HT.sIx xs.length 0 lo)).take (HT.sIx xs.length xs.length hi - HT.sIx xs.length 0 lo)
theorem cutV_length (xs : List V) (lo hi : Option Int) : (cutV xs lo hi).length ≤ xs.length := by
  unfold cutV
  rw [List.length_take, List.length_drop]
  omega
/-- t[lo:hi], not the whole of it (the whole would be t itself) -/
def rSlT (K : PySem.W.Frag) : V → Option Int → Option Int → Hp → VK → Prop := fun x lo hi H Q => ∃ a xs, x = .ref a ∧ SqT K H a xs ∧
  ¬ (HT.sIx xs.length 0 lo = 0 ∧ HT.sIx xs.length xs.length hi = xs.length) ∧ ∀ p, H p = none → Q (.ref p) (upd H p (.tup (cutV xs lo hi)))
theorem sl_tup : SlR X (rSlT X.K) := by
  intro pins s σ H x v vl vu lo hi sl Q I rx hs pl pu h
  obtain ⟨a, xs, rfl, hx, hw, q⟩ := h
  cases rx
  obtain ⟨its, r, ht, hz⟩ := I.tuple hx
  have hlen : its.toArray.size = xs.length := by rw [List.size_toArray]; exact r.length.symm
  refine ⟨"tuple", _, PyProof.Rows.slot_tuple_getitem.lookup, ht.typeIs, ?_⟩
  refine HT.getItem_tuple_cut ht hs pl pu (by rw [hlen]; exact hw) ?_ (by rw [hlen]; exact hz)
  rw [hlen]
  refine ⟨.ref s.heap.objs.size, _, I.laid (t' := s.toks) (o := .tup (cutV xs lo hi)) (fun b ob q => Heap.get?_push_of_some _ q) (Nat.le_refl _) ?_, rfl, q _ (I.hok.fresh (Nat.le_refl _))⟩
  exact ⟨Nat.le_trans (cutV_length xs lo hi) hz, _, (r.drop (HT.sIx xs.length 0 lo)).take (HT.sIx xs.length xs.length hi - HT.sIx xs.length 0 lo), IsTup.new _ _⟩

/-! ### t < u, t + u -/
def rLtT (K : PySem.W.Frag) : R2 := fun x y H Q => ∃ a b ns ms, x = .ref a ∧ y = .ref b ∧ SqT K H a (ns.map V.int) ∧ SqT K H b (ms.map V.int) ∧ Q (.bl (HT.lexLt ns ms)) H
theorem op_ltT (hu : X.A.units < cLine) : OpR X (compareOp .Lt) (rLtT X.K) := by
  intro pins s σ H x y v u Q I rx ry h
  obtain ⟨a, b, ns, ms, rfl, rfl, ha, hb, q⟩ := h
  cases rx
  cases ry
  obtain ⟨its, r1, p1, _⟩ := I.tuple ha
  obtain ⟨its2, r2, p2, _⟩ := I.tuple hb
  have i1 : IntsAre its.toArray.toList ns := intsAre_of r1
  have i2 : IntsAre its2.toArray.toList ms := intsAre_of r2
  exact HT.lt_tupInts p1 p2 i1 i2 hu ⟨.bl (HT.lexLt ns ms), H, I, rfl, q⟩
/-- t + u, t not empty: u empty gives t itself -/
def rCatT (K : PySem.W.Frag) : R2 := fun x y H Q => ∃ a b xs ys, x = .ref a ∧ y = .ref b ∧ SqT K H a xs ∧ SqT K H b ys ∧ xs ≠ [] ∧ xs.length + ys.length ≤ sizeLine ∧
  (ys = [] → Q (.ref a) H) ∧ (ys ≠ [] → ∀ p, H p = none → Q (.ref p) (upd H p (.tup (xs ++ ys))))
theorem Vals.nil_iff {xs : List V} {us : List Value} (r : Vals xs us) : us = [] ↔ xs = [] := by
  cases r with
  | nil => simp
  | cons _ _ => simp
theorem op_catT : OpR X (binaryOp .Add) (rCatT X.K) := by
  intro pins s σ H x y v u Q I rx ry h
  obtain ⟨a, b, xs, ys, rfl, rfl, ha, hb, hx, hz, q1, q2⟩ := h
  cases rx
  cases ry
  obtain ⟨its, r1, p1, _⟩ := I.tuple ha
  obtain ⟨its2, r2, p2, _⟩ := I.tuple hb
  refine HT.cat_tup p1 p2 (fun z => hx (r1.nil_iff.mp z)) (fun z => ⟨.ref a, H, I, rfl, q1 (r2.nil_iff.mp z)⟩) (fun z => ?_) (by rw [← r1.length, ← r2.length]; exact hz)
  refine ⟨.ref s.heap.objs.size, _, I.laid (t' := s.toks) (o := .tup (xs ++ ys)) (fun b ob q => Heap.get?_push_of_some _ q) (Nat.le_refl _) ?_, rfl, q2 (fun w => z (r2.nil_iff.mpr w)) _ (I.hok.fresh (Nat.le_refl _))⟩
  exact ⟨by rw [List.length_append]; exact hz, _, r1.append r2, IsTup.new _ _⟩
/-- tuple(t) -/
theorem call_tupleT : CallR X (.type "tuple") (fun xs H Q => ∃ a ys, xs = [.ref a] ∧ SqT X.K H a ys ∧ Q (.ref a) H) := by
  intro pins s σ H xs us Q I r h
  obtain ⟨a, ys, rfl, ha, q⟩ := h
  obtain ⟨u, rfl, ru⟩ := vals1 r
  cases ru
  obtain ⟨its, _, p1, _⟩ := I.tuple ha
  exact call_tuple_same (items := its.toArray) p1 ⟨.ref a, H, I, rfl, q⟩
end
end L2

namespace L2
open PySem PySem.Spec PyProof.Rows

/-! ### places -/
/-- the place that an index of any sign means -/
def ixN (n : Nat) (i : Int) : Option Nat := if 0 ≤ i then (if i < n then some i.toNat else none) else if -(n : Int) ≤ i then some (i + n).toNat else none
def atI {α : Type} (xs : List α) (i : Int) : Option α := (ixN xs.length i).bind fun j => xs[j]?
theorem ixN_seq {n : Nat} {i : Int} {j : Nat} (h : ixN n i = some j) : seqIndex? i n = some j ∧ j < n ∧ -(n : Int) ≤ i ∧ i < n := by
  unfold ixN at h
  by_cases h0 : 0 ≤ i
  · rw [if_pos h0] at h
    by_cases h1 : i < n
    · rw [if_pos h1] at h
      have e : i.toNat = j := Option.some.inj h
      exact ⟨by rw [seqIndex_of h0 h1, e], by omega, by omega, h1⟩
    · rw [if_neg h1] at h; cases h
  · rw [if_neg h0] at h
    by_cases h1 : -(n : Int) ≤ i
    · rw [if_pos h1] at h
      have e : (i + n).toNat = j := Option.some.inj h
      exact ⟨by rw [seqIndex_neg (by omega) h1, e], by omega, h1, by omega⟩
    · rw [if_neg h1] at h; cases h
theorem atI_get {α : Type} {xs : List α} {i : Int} {v : α} (h : atI xs i = some v) : ∃ j, seqIndex? i xs.length = some j ∧ xs[j]? = some v ∧ j < xs.length ∧ -(xs.length : Int) ≤ i ∧ i < xs.length := by
  unfold atI at h
  cases e : ixN xs.length i with
  | none => rw [e] at h; cases h
  | some j =>
    rw [e] at h
    obtain ⟨h1, h2, h3, h4⟩ := ixN_seq e
    exact ⟨j, h1, h, h2, h3, h4⟩
theorem atI_nat {α : Type} {xs : List α} {j : Nat} {v : α} (h : xs[j]? = some v) : atI xs (j : Int) = some v := by
  have hj : j < xs.length := (List.getElem?_eq_some_iff.mp h).1
  have e : ixN xs.length (j : Int) = some j := by
    unfold ixN
    rw [if_pos (by omega), if_pos (by omega)]; simp
  unfold atI; rw [e]; exact h
theorem atI_last {α : Type} (xs : List α) (v : α) : atI (xs ++ [v]) (-1) = some v := by
  have hl : (xs ++ [v]).length = xs.length + 1 := by simp
  have e : ixN (xs ++ [v]).length (-1) = some xs.length := by
    unfold ixN
    rw [hl, if_neg (by decide), if_pos (by omega)]
    congr 1
    omega
  unfold atI
  rw [e]
  show (xs ++ [v])[xs.length]? = some v
  simp

/-! ### what may be subscripted -/
/-- what stands as an index of a plain subscript -/
def PlainIx (b : Expr) : Prop := ∀ o i, subscripted b false o i = operate [o, i] (getItem o i)
/-- a subscript by values -/
def IxR (X : Cx) (r : R2) : Prop :=
  ∀ (value slice : Expr) (pins : List (Addr × Obj)) (s : Shared) (σ : St) (H : Hp) (x y : V) (v u : Value) (Q : VK), Inv X pins σ H s → RelV x v → RelV y u → r x y H Q →
    subscripted slice false v u = operate [v, u] (getItem v u) → wpAny (model X.prog X.w) X.A (subscriptTail value slice v u) (EP X pins σ Q) X.xe s
/-- a call of a builtin's method by values: the receiver, the arguments -/
def MtR (X : Cx) (id : String) (r : V → List V → Hp → VK → Prop) : Prop :=
  ∀ (pins : List (Addr × Obj)) (s : Shared) (σ : St) (H : Hp) (x : V) (xs : List V) (v : Value) (us : List Value) (Q : VK), Inv X pins σ H s → RelV x v → Vals xs us → r x xs H Q →
    wpAny (model X.prog X.w) X.A (call (.builtin id) (v :: us)) (EP X pins σ Q) X.xe s
section
variable {X : Cx} {a b : Expr} {ta tb : TE} {pos : Pos}
theorem IxR.or {r r' : R2} (h : IxR X r) (h' : IxR X r') : IxR X (fun x y H Q => r x y H Q ∨ r' x y H Q) := by
  intro value slice pins s σ H x y v u Q I rx ry q hs
  rcases q with q | q
  · exact h value slice pins s σ H x y v u Q I rx ry q hs
  · exact h' value slice pins s σ H x y v u Q I rx ry q hs
theorem MtR.or {id : String} {r r' : V → List V → Hp → VK → Prop} (h : MtR X id r) (h' : MtR X id r') : MtR X id (fun x xs H Q => r x xs H Q ∨ r' x xs H Q) := by
  intro pins s σ H x xs v us Q I rx rs q
  rcases q with q | q
  · exact h pins s σ H x xs v us Q I rx rs q
  · exact h' pins s σ H x xs v us Q I rx rs q
/-- a[b] -/
theorem pe_ix {r : R2} (hr : IxR X r) (ha : PE X a ta) (hb : PE X b tb) (hs : PlainIx b) : PE X (.Subscript a b pos) (tOp r ta tb) := by
  intro pins s σ H Q I h
  exact Subscript_ (binT ha hb I h fun v u s2 x y H2 I2 rx ry q => hr a b pins s2 σ H2 x y v u Q I2 rx ry q (hs _ _))

def rIxL (K : PySem.W.Frag) : R2 := fun x y H Q => ∃ p xs i v, x = .ref p ∧ y = .int i ∧ SqL K H p xs ∧ atI xs i = some v ∧ Q v H
def rIxT (K : PySem.W.Frag) : R2 := fun x y H Q => ∃ p xs i v, x = .ref p ∧ y = .int i ∧ SqT K H p xs ∧ atI xs i = some v ∧ Q v H
def rIxS : R2 := fun x y H Q => ∃ z i c, x = .str z ∧ y = .int i ∧ z.length ≤ sizeLine ∧ atI z.cps.toList i = some c ∧ Q (.str ⟨#[c]⟩) H
theorem ix_list : IxR X (rIxL X.K) := by
  intro value slice pins s σ H x y v u Q I rx ry h hs
  obtain ⟨p, xs, i, z, rfl, rfl, hq, he, q⟩ := h
  cases rx
  obtain ⟨t, rfl⟩ := ry
  obtain ⟨its, r, pl, hz⟩ := I.list hq
  obtain ⟨j, h1, h2, h3, h4, h5⟩ := atI_get he
  obtain ⟨w, ew, rw'⟩ := r.get h2
  have hl := r.length
  have hn := line63
  have fin : EP X pins σ Q w s := ⟨z, H, I, rw', q⟩
  by_cases h0 : 0 ≤ i
  · have hj : i.toNat = j := by
      rw [seqIndex_of h0 h5] at h1
      exact Option.some.inj h1
    exact item_listR pl.isList h0 (by omega) (by rw [hj]; simpa using ew) fin hs
  · have hj : (i + (its.toArray.size : Int)).toNat = j := by
      rw [seqIndex_neg (by omega) h4] at h1
      rw [List.size_toArray, ← hl]
      exact Option.some.inj h1
    exact subscriptTail_builtinR (x := w) pl.isList.typeIs slot_list_getitem.lookup
      (wpAny_getItem_list_neg (Q := fun r s' => r = w ∧ EP X pins σ Q r s') pl.isList (by omega) (by rw [List.size_toArray] <;> omega) (by omega) (by rw [hj]; simpa using ew) ⟨rfl, fin⟩) hs
theorem ix_tup : IxR X (rIxT X.K) := by
  intro value slice pins s σ H x y v u Q I rx ry h hs
  obtain ⟨p, xs, i, z, rfl, rfl, hq, he, q⟩ := h
  cases rx
  obtain ⟨t, rfl⟩ := ry
  obtain ⟨its, r, pl, hz⟩ := I.tuple hq
  obtain ⟨j, h1, h2, h3, h4, h5⟩ := atI_get he
  obtain ⟨w, ew, rw'⟩ := r.get h2
  have hl := r.length
  have hn := line63
  have fin : EP X pins σ Q w s := ⟨z, H, I, rw', q⟩
  exact subscriptTail_builtinR (x := w) pl.typeIs slot_tuple_getitem.lookup
    (getItem_tuple (j := j) (Q := fun r s' => r = w ∧ EP X pins σ Q r s') pl (by omega) (by omega) (by rw [List.size_toArray, ← hl]; exact h1) (by simpa using ew) ⟨rfl, fin⟩) hs
theorem ix_str : IxR X rIxS := by
  intro value slice pins s σ H x y v u Q I rx ry h hs
  obtain ⟨z, i, c, rfl, rfl, hz, he, q⟩ := h
  obtain ⟨t, rfl⟩ := rx
  obtain ⟨t', rfl⟩ := ry
  obtain ⟨j, h1, h2, h3, h4, h5⟩ := atI_get he
  have hl : z.cps.toList.length = z.length := by simp [Str.length]
  rw [hl] at h1 h4 h5
  have hn := line63
  exact tail_any (typeIs_str s z t) slot_str_getitem.lookup (getItem_str (c := c) (by
    have e1 : decide (i < -(2 ^ 63 : Int)) = false := decide_eq_false (by omega)
    have e2 : decide (i ≥ 2 ^ 63) = false := decide_eq_false (by omega)
    rw [e1, e2, Bool.or_false]) (by rw [h1]; simpa using h2) ⟨.str ⟨#[c]⟩, H, I.tok _, ⟨_, rfl⟩, q⟩) hs
/-- list, tuple or str -/
def rIx (K : PySem.W.Frag) : R2 := fun x y H Q => rIxL K x y H Q ∨ rIxT K x y H Q ∨ rIxS x y H Q
theorem ix_seq : IxR X (rIx X.K) := ix_list.or (ix_tup.or ix_str)

/-! ### xs[i] = v, any sign -/
/-- the list's object behind a store -/
theorem mapSeq_set (its : List Value) (n j : Nat) (u : Value) : Obj.mapSeq (·.setIfInBounds j u) { cls := .type "list", data := .seq its.toArray n } = { cls := .type "list", data := .seq (its.set j u).toArray n } := by
  simp [Obj.mapSeq]
theorem Inv.lst {pins : List (Addr × Obj)} {σ : St} {H : Hp} {s : Shared} {p : Addr} {xs : List V} (I : Inv X pins σ H s) (h : H p = some (.lst xs)) :
    ∃ (its : List Value) (n : Nat), Vals xs its ∧ s.heap.get? p = some { cls := .type "list", data := .seq its.toArray n } ∧ xs.length ≤ sizeLine := by
  obtain ⟨z, its, n, r, e⟩ := I.hok p _ h
  exact ⟨its, n, r, e, z⟩
/-- the list at p is written by an update of its object -/
theorem Inv.lstUpd {pins : List (Addr × Obj)} {σ : St} {H : Hp} {s : Shared} {p : Addr} {xs ys : List V} {its its' : List Value} {n n' : Nat} {f : Obj → Obj} (I : Inv X pins σ H s) (h : H p = some (.lst xs))
    (ho : s.heap.get? p = some { cls := .type "list", data := .seq its.toArray n }) (hf : f { cls := .type "list", data := .seq its.toArray n } = { cls := .type "list", data := .seq its'.toArray n' }) (r : Vals ys its') (hz : ys.length ≤ sizeLine) (t : Nat) :
    Inv X pins σ (upd H p (.lst ys)) { s with heap := s.heap.update p f, toks := t } := by
  have e : (s.heap.update p f).get? p = some { cls := .type "list", data := .seq its'.toArray n' } := by
    rw [Heap.get?_update_self f ho (by rw [hf] <;> rfl), hf]
  refine I.write (x := p) (e := p) (by rw [h]; trivial) (.inl rfl) (fun b u hb q => (Heap.get?_update_other _ _ (Ne.symm hb)).trans q) ⟨_, e⟩ ?_
  exact ⟨hz, its', n', r, e⟩
def rSetL : V → V → V → Hp → (Hp → Prop) → Prop := fun o i v H Q => ∃ p xs k j, o = .ref p ∧ i = .int k ∧ H p = some (.lst xs) ∧ ixN xs.length k = some j ∧ Q (upd H p (.lst (xs.set j v)))
theorem set_list : PSet X rSetL := by
  intro pins s σ H o i v ov iv u Q I ro ri rv h
  obtain ⟨p, xs, k, j, rfl, rfl, hp, hj, q⟩ := h
  cases ro
  obtain ⟨t, rfl⟩ := ri
  obtain ⟨its, n, r, ho, hz⟩ := I.lst hp
  obtain ⟨h1, h2, h3, h4⟩ := ixN_seq hj
  have hl := r.length
  have hn := line63
  have I' : Inv X pins σ (upd H p (.lst (xs.set j v))) { s with heap := s.heap.update p (Obj.mapSeq (·.setIfInBounds j u)) } :=
    I.lstUpd hp ho (mapSeq_set its n j u) (r.set rv j) (by rw [List.length_set]; exact hz) s.toks
  by_cases h0 : 0 ≤ k
  · have hk : k.toNat = j := by
      rw [seqIndex_of h0 h4] at h1
      exact Option.some.inj h1
    exact PySem.W.ki_setAt ho h0 (by omega) (by rw [List.size_toArray, ← hl]; exact h4) (by rw [hk]; exact ⟨_, I', q⟩)
  · have hk : (k + (its.toArray.size : Int)).toNat = j := by
      rw [seqIndex_neg (by omega) h3] at h1
      rw [List.size_toArray, ← hl]
      exact Option.some.inj h1
    exact PySem.W.ki_setBack ho (by omega) (by rw [List.size_toArray, ← hl]; exact h3) (by omega) (by rw [hk]; exact ⟨_, I', q⟩)

/-! ### slices -/
theorem slice_bounds (lo hi : Option Int) (n : Nat) : (sliceBounds lo hi none n).1 = ((HT.sIx n 0 lo : Nat) : Int) ∧ (sliceBounds lo hi none n).2.1 = ((HT.sIx n n hi : Nat) : Int) ∧ (sliceBounds lo hi none n).2.2 = 1 := by
  refine ⟨?_, ?_, rfl⟩
  · cases lo with
    | none => simp [sliceBounds, HT.sIx]
    | some i =>
      simp only [sliceBounds, HT.sIx, Option.getD_none, show (1 : Int) > 0 by decide, if_true]
      by_cases h : i < 0
      · simp only [h, if_true] <;> omega
      · simp only [h, if_false] <;> omega
  · cases hi with
    | none => simp [sliceBounds, HT.sIx]
    | some i =>
      simp only [sliceBounds, HT.sIx, Option.getD_none, show (1 : Int) > 0 by decide, if_true]
      by_cases h : i < 0
      · simp only [h, if_true] <;> omega
      · simp only [h, if_false] <;> omega
theorem slicePick_cut (its : List Value) (lo hi : Option Int) : slicePick its.toArray lo hi none = ((its.drop (HT.sIx its.length 0 lo)).take (HT.sIx its.length its.length hi - HT.sIx its.length 0 lo)).toArray := by
  obtain ⟨h1, h2, h3⟩ := slice_bounds lo hi its.toArray.size
  unfold slicePick
  rw [h1, h2, h3]
  simp only [sliceRange_one, pick_run, List.size_toArray] <;> rfl
/-- xs[lo:hi] of a list: a new list -/
def rSlL (K : PySem.W.Frag) : V → Option Int → Option Int → Hp → VK → Prop := fun x lo hi H Q => ∃ a xs, x = .ref a ∧ SqL K H a xs ∧ ∀ p, H p = none → Q (.ref p) (upd H p (.lst (cutV xs lo hi)))
theorem sl_list : SlR X (rSlL X.K) := by
  intro pins s σ H x v vl vu lo hi sl Q I rx hs pl pu h
  obtain ⟨a, xs, rfl, hx, q⟩ := h
  cases rx
  obtain ⟨its, r, ht, hz⟩ := I.list hx
  have hlen := r.length
  refine ⟨"list", _, slot_list_getitem.lookup, ht.isList.typeIs, ?_⟩
  refine wpAny_getItem_list_slice ht.isList hs pl pu .none (by simp) ?_ (by rw [List.size_toArray] <;> omega)
  rw [slicePick_cut, ← hlen]
  refine ⟨.ref s.heap.objs.size, _, I.laid (t' := s.toks) (o := .lst (cutV xs lo hi)) (fun b ob q => Heap.get?_push_of_some _ q) (Nat.le_refl _) ?_, rfl, q _ (I.hok.fresh (Nat.le_refl _))⟩
  exact ⟨Nat.le_trans (cutV_length xs lo hi) hz, _, 0, (r.drop (HT.sIx xs.length 0 lo)).take (HT.sIx xs.length xs.length hi - HT.sIx xs.length 0 lo), Heap.get?_push_size _ rfl⟩

/-! ### in, not in: flat items -/
def flatV : V → Bool
  | .non => true
  | .bl _ => true
  | .int _ => true
  | .str _ => true
  | _ => false
/-- == of flat values -/
def eqV : V → V → Bool
  | .non, .non => true
  | .bl a, .bl b => a == b
  | .bl a, .int b => (if a then 1 else 0) == b
  | .int a, .bl b => a == (if b then 1 else 0)
  | .int a, .int b => a == b
  | .str a, .str b => a == b
  | _, _ => false
theorem eqAt_V {A : Around} {s : Shared} {y x : V} {u v : Value} (ry : RelV y u) (rx : RelV x v) (fy : flatV y = true) (fx : flatV x = true) : SeqAt.EqAt A s u v (eqV y x) := by
  cases y with
  | non =>
    cases ry
    cases x with
    | non => cases rx; exact SeqAt.EqAt.same _
    | bl b => cases rx; exact SeqAt.EqAt.none_bool b
    | int b => obtain ⟨t, rfl⟩ := rx; exact SeqAt.EqAt.none_int b t
    | str b => obtain ⟨t, rfl⟩ := rx; exact SeqAt.EqAt.none_str b t
    | _ => exact absurd (show false = true from fx) Bool.false_ne_true
  | bl a =>
    cases ry
    cases x with
    | non => cases rx; exact SeqAt.EqAt.bool_none a
    | bl b => cases rx; exact SeqAt.EqAt.bool_bool a b
    | int b => obtain ⟨t, rfl⟩ := rx; exact SeqAt.EqAt.bool_int a b t
    | str b => obtain ⟨t, rfl⟩ := rx; exact SeqAt.EqAt.bool_str a b t
    | _ => exact absurd (show false = true from fx) Bool.false_ne_true
  | int a =>
    obtain ⟨t', rfl⟩ := ry
    cases x with
    | non => cases rx; exact SeqAt.EqAt.int_none a t'
    | bl b => cases rx; exact SeqAt.EqAt.int_bool a t' b
    | int b => obtain ⟨t, rfl⟩ := rx; exact SeqAt.EqAt.int_int a t' b t
    | str b => obtain ⟨t, rfl⟩ := rx; exact SeqAt.EqAt.int_str a t' b t
    | _ => exact absurd (show false = true from fx) Bool.false_ne_true
  | str a =>
    obtain ⟨t', rfl⟩ := ry
    cases x with
    | non => cases rx; exact SeqAt.EqAt.str_none a t'
    | bl b => cases rx; exact SeqAt.EqAt.str_bool a t' b
    | int b => obtain ⟨t, rfl⟩ := rx; exact SeqAt.EqAt.str_int a t' b t
    | str b => obtain ⟨t, rfl⟩ := rx; exact SeqAt.EqAt.str_str a t' b t
    | _ => exact absurd (show false = true from fx) Bool.false_ne_true
  | _ => exact absurd (show false = true from fy) Bool.false_ne_true
/-- the items' answers, read off the values (a value's own answer does not lean on its token) -/
def eqU (x : V) (u : Value) : Bool := match u with
  | .none => eqV .non x
  | .bool b => eqV (.bl b) x
  | .int i _ => eqV (.int i) x
  | .str z _ => eqV (.str z) x
  | _ => false
theorem eqU_of {x y : V} {u : Value} (r : RelV y u) (f : flatV y = true) : eqU x u = eqV y x := by
  cases y with
  | non => cases r; rfl
  | bl b => cases r; rfl
  | int i => obtain ⟨t, rfl⟩ := r; rfl
  | str z => obtain ⟨t, rfl⟩ := r; rfl
  | _ => exact absurd (show false = true from f) Bool.false_ne_true
theorem any_eqU {x : V} : ∀ {xs : List V} {us : List Value}, Vals xs us → xs.all flatV = true → us.any (eqU x) = xs.any fun y => eqV y x
  | _, _, .nil, _ => rfl
  | y :: xs, u :: us, .cons r t, f => by
    rw [List.all_cons, Bool.and_eq_true] at f
    rw [List.any_cons, List.any_cons, eqU_of r f.1, any_eqU t f.2]
theorem mem_eqAt {A : Around} {s : Shared} {x : V} {v : Value} (rx : RelV x v) (fx : flatV x = true) : ∀ {xs : List V} {us : List Value}, Vals xs us → xs.all flatV = true → ∀ u ∈ us, SeqAt.EqAt A s u v (eqU x u)
  | _, _, .nil, _ => fun u hu => by cases hu
  | y :: xs, u :: us, .cons r t, f => fun u' hu => by
    rw [List.all_cons, Bool.and_eq_true] at f
    rcases List.mem_cons.mp hu with rfl | hu
    · rw [eqU_of r f.1]; exact eqAt_V r rx f.1 fx
    · exact mem_eqAt rx fx t f.2 u' hu
def inV (x : V) (xs : List V) : Bool := xs.any fun y => eqV y x
/-- x in a list or tuple of flat items -/
def rIn (K : PySem.W.Frag) (neg : Bool) : R2 := fun x y H Q => ∃ p xs, y = .ref p ∧ (SqL K H p xs ∨ SqT K H p xs) ∧ flatV x = true ∧ xs.all flatV = true ∧ Q (.bl (if neg then !inV x xs else inV x xs)) H
theorem op_in_seq : OpR X (compareOp .In) (rIn X.K false) := by
  intro pins s σ H x y v u Q I rx ry h
  obtain ⟨p, xs, rfl, hq, fx, fs, q⟩ := h
  cases ry
  rcases hq with hq | hq
  · obtain ⟨its, r, pl, hz⟩ := I.list hq
    refine SeqAt.in_listAt (eqU x) pl.isList (fun w hw => mem_eqAt rx fx r fs w (by simpa using hw)) ⟨.bl _, H, I, rfl, ?_⟩
    rw [show its.toArray.any (eqU x) = its.any (eqU x) by simp, any_eqU r fs]
    exact q
  · obtain ⟨its, r, pl, hz⟩ := I.tuple hq
    refine SeqAt.in_tupleAt (eqU x) pl (fun w hw => mem_eqAt rx fx r fs w (by simpa using hw)) ⟨.bl _, H, I, rfl, ?_⟩
    rw [show its.toArray.any (eqU x) = its.any (eqU x) by simp, any_eqU r fs]
    exact q
theorem op_notIn_seq : OpR X (compareOp .NotIn) (rIn X.K true) := by
  intro pins s σ H x y v u Q I rx ry h
  obtain ⟨p, xs, rfl, hq, fx, fs, q⟩ := h
  cases ry
  rcases hq with hq | hq
  · obtain ⟨its, r, pl, hz⟩ := I.list hq
    refine SeqAt.notIn_listAt (eqU x) pl.isList (fun w hw => mem_eqAt rx fx r fs w (by simpa using hw)) ⟨.bl _, H, I, rfl, ?_⟩
    rw [show its.toArray.any (eqU x) = its.any (eqU x) by simp, any_eqU r fs]
    exact q
  · obtain ⟨its, r, pl, hz⟩ := I.tuple hq
    refine SeqAt.notIn_tupleAt (eqU x) pl (fun w hw => mem_eqAt rx fx r fs w (by simpa using hw)) ⟨.bl _, H, I, rfl, ?_⟩
    rw [show its.toArray.any (eqU x) = its.any (eqU x) by simp, any_eqU r fs]
    exact q
theorem op_notIn_str : OpR X (compareOp .NotIn) (fun x y H Q => ∃ i j, x = .str i ∧ y = .str j ∧ Q (.bl (!(!(Builtin.Str.occurrences j i 0 j.length 1).isEmpty))) H) := by
  intro pins s σ H x y v u Q I rx ry h
  obtain ⟨i, j, rfl, rfl, q⟩ := h
  obtain ⟨t, rfl⟩ := rx
  obtain ⟨t', rfl⟩ := ry
  exact notIn_str ⟨.bl _, H, I, rfl, q⟩

/-! ### len, list(x), tuple(x) of any list or tuple that is read -/
theorem call_len_seq : CallR X (.builtin "len") (fun xs H Q => ∃ p ys, xs = [.ref p] ∧ (SqL X.K H p ys ∨ SqT X.K H p ys) ∧ Q (.int ys.length) H) := by
  intro pins s σ H xs us Q I r h
  obtain ⟨p, ys, rfl, hq, q⟩ := h
  obtain ⟨u, rfl, rx⟩ := vals1 r
  cases rx
  have hn := line63
  rcases hq with hq | hq
  · obtain ⟨its, r', pl, hz⟩ := I.list hq
    have hlen := r'.length
    exact Calls.call_len_list pl.isList (by simp only [List.size_toArray] <;> omega) ⟨.int ys.length, H, I.tok _, ⟨s.toks + 1, by rw [List.size_toArray, hlen]⟩, q⟩
  · obtain ⟨its, r', pl, hz⟩ := I.tuple hq
    have hlen := r'.length
    exact len_tuple pl (by simp only [List.size_toArray] <;> omega) ⟨.int ys.length, H, I.tok _, ⟨s.toks + 1, by rw [List.size_toArray, hlen]⟩, q⟩
theorem call_len_str : CallR X (.builtin "len") (fun xs H Q => ∃ z, xs = [.str z] ∧ z.length ≤ sizeLine ∧ Q (.int z.length) H) := by
  intro pins s σ H xs us Q I r h
  obtain ⟨z, rfl, hz, q⟩ := h
  obtain ⟨u, rfl, t, rfl⟩ := vals1 r
  have hn := line63
  exact len_str (by omega) ⟨.int z.length, H, I.tok _, ⟨_, rfl⟩, q⟩
theorem CallR.or {f : Value} {r r' : List V → Hp → VK → Prop} (h : CallR X f r) (h' : CallR X f r') : CallR X f (fun xs H Q => r xs H Q ∨ r' xs H Q) := by
  intro pins s σ H xs us Q I rs q
  rcases q with q | q
  · exact h pins s σ H xs us Q I rs q
  · exact h' pins s σ H xs us Q I rs q
theorem call_list_of : CallR X (.type "list") (fun xs H Q => ∃ p ys, xs = [.ref p] ∧ (SqL X.K H p ys ∨ SqT X.K H p ys) ∧ ∀ l, H l = none → Q (.ref l) (upd H l (.lst ys))) := by
  intro pins s σ H xs us Q I r h
  obtain ⟨p, ys, rfl, hq, q⟩ := h
  obtain ⟨u, rfl, rx⟩ := vals1 r
  cases rx
  have fin : ∀ (its : List Value), Vals ys its → ys.length ≤ sizeLine → ∀ (h' : Heap) (c' : Nat), (∀ b o', s.heap.get? b = some o' → h'.get? b = some o') →
      h'.get? s.heap.objs.size = some { cls := .type "list", dict := none, data := .seq its.toArray c', slots := #[] } → EP X pins σ Q (.ref s.heap.objs.size) { s with heap := h' } := fun its r' hz h' c' kp e =>
    ⟨.ref s.heap.objs.size, _, I.laid (t' := s.toks) kp (Nat.le_refl _) (show ObjOk X.prog X.w _ h' _ (.lst ys) from ⟨hz, its, c', r', e⟩), rfl, q _ (I.hok.fresh (Nat.le_refl _))⟩
  rcases hq with hq | hq
  · obtain ⟨its, r', pl, hz⟩ := I.list hq
    have hlen := r'.length
    obtain ⟨o, ho, hc, n, hd⟩ := pl.isList
    exact call_list_seq p (.inl rfl) ho hc hd (fun h' c' kp e => fin its r' hz h' c' kp e) (by simp only [List.size_toArray] <;> omega)
  · obtain ⟨its, r', pl, hz⟩ := I.tuple hq
    have hlen := r'.length
    obtain ⟨o, ho, hc, n, hd⟩ := pl
    exact call_list_seq p (.inr rfl) ho hc hd (fun h' c' kp e => fin its r' hz h' c' kp e) (by simp only [List.size_toArray] <;> omega)
theorem call_tuple_of : CallR X (.type "tuple") (fun xs H Q => ∃ p ys, xs = [.ref p] ∧ ((SqL X.K H p ys ∧ ∀ l, H l = none → Q (.ref l) (upd H l (.tup ys))) ∨ (SqT X.K H p ys ∧ Q (.ref p) H))) := by
  intro pins s σ H xs us Q I r h
  obtain ⟨p, ys, rfl, h⟩ := h
  obtain ⟨u, rfl, rx⟩ := vals1 r
  cases rx
  rcases h with ⟨hq, q⟩ | ⟨hq, q⟩
  · obtain ⟨its, r', pl, hz⟩ := I.list hq
    have hlen := r'.length
    refine call_tuple_list pl.isList (fun h' kp => ?_) (by simp only [List.size_toArray] <;> omega)
    have I1 : Inv X pins σ H { s with heap := h' } := I.kept (t' := s.toks) kp
    have I2 : Inv X pins σ (upd H h'.objs.size (.tup ys)) { s with heap := h'.push { cls := .type "tuple", data := .seq its.toArray } } :=
      I1.laid (t' := s.toks) (fun b o e => Heap.get?_push_of_some _ e) (Nat.le_refl _) (show ObjOk X.prog X.w _ _ _ (.tup ys) from ⟨hz, its, r', IsTup.new _ _⟩)
    exact ⟨.ref h'.objs.size, _, I2, rfl, q _ (I1.hok.fresh (Nat.le_refl _))⟩
  · obtain ⟨its, r', pl, hz⟩ := I.tuple hq
    exact call_tuple_same pl ⟨.ref p, H, I, rfl, q⟩

/-! ### the call of a builtin's method: o.m(..) -/
/-- the value is of that builtin type -/
def tyV (K : PySem.W.Frag) (T : String) (x : V) (H : Hp) : Prop := match x with
  | .str _ => T = "str"
  | .int _ => T = "int"
  | .ref p => (T = "list" ∧ ∃ xs, SqL K H p xs) ∨ (T = "tuple" ∧ ∃ o, K.lookup p = some o ∧ o.cls = .type "tuple" ∧ o.dict = none) ∨
      (T = "dict" ∧ ((∃ kvs, H p = some (.dK kvs)) ∨ ∃ kvs, H p = some (.dT kvs))) ∨ (T = "set" ∧ ∃ S n, H p = some (.set S n))
  | _ => False
theorem tyV_is {pins : List (Addr × Obj)} {σ : St} {H : Hp} {s : Shared} {T : String} {x : V} {v : Value} (I : Inv X pins σ H s) (r : RelV x v) (ty : tyV X.K T x H) :
    s.TypeIs v T ∧ ∀ a, v = .ref a → ∃ ob, s.heap.get? a = some ob ∧ ob.dict = none := by
  cases x with
  | str z =>
    obtain ⟨t, rfl⟩ := r
    cases (show T = "str" from ty)
    exact ⟨typeIs_str s z t, fun _ e => nomatch e⟩
  | int i =>
    obtain ⟨t, rfl⟩ := r
    cases (show T = "int" from ty)
    exact ⟨typeIs_int s i t, fun _ e => nomatch e⟩
  | ref p =>
    cases r
    rcases ty with ⟨rfl, xs, hq⟩ | ⟨rfl, o, hk, hc, hd⟩ | ⟨rfl, hk⟩ | ⟨rfl, S, n, hk⟩
    · obtain ⟨its, _, pl, _⟩ := I.list hq
      refine ⟨pl.isList.typeIs, fun a e => ?_⟩
      cases e
      obtain ⟨o, n, e, c, hd, _⟩ := pl
      exact ⟨o, e, hd⟩
    · refine ⟨⟨o, I.kIn p o hk, hc⟩, fun a e => ?_⟩
      cases e
      exact ⟨o, I.kIn _ o hk, hd⟩
    · have z : ∃ o, s.heap.get? p = some o ∧ o.ExactDict := by
        rcases hk with ⟨kvs, hk⟩ | ⟨kvs, hk⟩
        · obtain ⟨_, _, _, _, o, _, _, e, ex, _⟩ := I.hok p _ hk
          exact ⟨o, e, ex⟩
        · obtain ⟨_, _, _, _, o, _, _, e, ex, _⟩ := I.hok p _ hk
          exact ⟨o, e, ex⟩
      obtain ⟨o, e, ex⟩ := z
      refine ⟨⟨o, e, ex.1⟩, fun a e2 => ?_⟩
      cases e2
      exact ⟨o, e, ex.2.1⟩
    · obtain ⟨o, _, _, _, e, ex, _⟩ := I.hok p _ hk
      refine ⟨⟨o, e, ex.1⟩, fun a e2 => ?_⟩
      cases e2
      exact ⟨o, e, ex.2.1⟩
  | _ => exact False.elim ty
def tBM0 (K : PySem.W.Frag) (T : String) (r : V → List V → Hp → VK → Prop) (to : TE) : TE := fun σ H Q => to σ H fun x H1 => tyV K T x H1 ∧ r x [] H1 Q
def tBM (K : PySem.W.Frag) (T : String) (r : V → List V → Hp → VK → Prop) (to : TE) (t : TA) : TE := fun σ H Q => to σ H fun x H1 => tyV K T x H1 ∧ t σ H1 fun xs H2 => r x xs H2 Q
variable {o e : Expr} {es : List Expr} {to : TE} {t : TA} {name : Str} {apos cpos : Pos} {T id : String} {r : V → List V → Hp → VK → Prop}
theorem pe_bm0 (pa : PlainAttrs T) (slot : Slot T name id) (hty : typeOf (.builtin id) = pure (.type "method_descriptor")) (hm : MtR X id r) (ho : PE X o to)
    (hbase : attributeBase o name X.env (eval o X.env) = eval o X.env := by rfl) (hline : (apos.endLine == cpos.line) = true := by rfl) : PE X (.Call (.Attribute o name apos) [] [] cpos) (tBM0 X.K T r to) := by
  intro pins s σ H Q I h
  refine wpAny_Call_method0_late hbase hline (thn (ho pins s σ H _ I h) fun v s1 ⟨x, H1, I1, r1, ty, q1⟩ => ?_)
  obtain ⟨h1, h2⟩ := tyV_is I1 r1 ty
  exact ⟨T, id, pa, slot, hty, h1, h2, Calls.callWith_builtin rfl (PySem.evalArgs_none (hm pins s1 σ H1 x [] v [] Q I1 r1 .nil q1))⟩
theorem pe_bm (pa : PlainAttrs T) (slot : Slot T name id) (hty : typeOf (.builtin id) = pure (.type "method_descriptor")) (hm : MtR X id r) (ho : PE X o to) (ha : PA X (e :: es) t)
    (hbase : attributeBase o name X.env (eval o X.env) = eval o X.env := by rfl)
    (hfew : ((backTo cpos (starEach (e :: es) X.env)).all (fun x => !x.1) && (backToKw cpos (keywordEach [] X.env)).all (fun x => x.1.isSome)
      && decide ((e :: es).length + ([] : List Keyword).length + (if ([] : List Keyword).isEmpty then 0 else 1) < 30)) = true := by rfl)
    (hline : (apos.endLine == cpos.line) = true := by rfl) (hs : starEach (e :: es) X.env = (false, eval e X.env) :: starEach es X.env := by rfl) (hplain : (backTo cpos (starEach es X.env)).any (·.1) = false := by rfl) :
    PE X (.Call (.Attribute o name apos) (e :: es) [] cpos) (tBM X.K T r to t) := by
  intro pins s σ H Q I h
  refine wpAny_Call_method_late hbase hfew hline rfl (thn (ho pins s σ H _ I h) fun v s1 ⟨x, H1, I1, r1, ty, q1⟩ => ?_)
  obtain ⟨h1, h2⟩ := tyV_is I1 r1 ty
  refine ⟨T, id, pa, slot, hty, h1, h2, ?_⟩
  have hA := ha cpos pins s1 σ H1 _ I1 q1
  rw [hs] at hA ⊢
  refine Calls.callWith_builtin (by show (false || (backTo cpos (starEach es X.env)).any (·.1)) = false; rw [hplain] <;> rfl) (Calls.evalArgs_plain ?_)
  exact thn hA fun us s2 ⟨vs, H2, I2, r2, q2⟩ => hm pins s2 σ H2 x vs v us Q I2 r1 r2 q2
/- xs.append(e), list.index on a module's tuple .. are MtR facts of 06m -/
end
end L2

namespace L2
open PySem PySem.Spec PyProof.Rows

def MtM (X : Cx) (id : String) (r : V → List V → Hp → VK → Prop) : Prop :=
  ∀ (pins : List (Addr × Obj)) (s : Shared) (σ : St) (H : Hp) (x : V) (xs : List V) (v : Value) (us : List Value) (Q : VK), Inv X pins σ H s → RelV x v → Vals xs us → r x xs H Q →
    wpAny (model X.prog X.w) X.A (call (.builtin id) (v :: us)) (EP X pins σ Q) X.xe s

/-! ### lists of values -/
theorem Vals.one : ∀ {x : V} {us : List Value}, Vals [x] us → ∃ u, us = [u] ∧ RelV x u
  | _, _, .cons r .nil => ⟨_, rfl, r⟩
theorem Vals.two : ∀ {x y : V} {us : List Value}, Vals [x, y] us → ∃ u v, us = [u, v] ∧ RelV x u ∧ RelV y v
  | _, _, _, .cons r (.cons q .nil) => ⟨_, _, rfl, r, q⟩
theorem Vals.zero : ∀ {us : List Value}, Vals [] us → us = []
  | _, .nil => rfl
theorem Vals.dropLast {xs : List V} {us : List Value} (h : Vals xs us) : Vals xs.dropLast us.dropLast := by
  induction h with
  | nil => exact .nil
  | cons r t ih =>
    cases t with
    | nil => exact .nil
    | cons q t' => exact .cons r ih
theorem Vals.eraseIdx : ∀ {xs : List V} {us : List Value} (i : Nat), Vals xs us → Vals (xs.eraseIdx i) (us.eraseIdx i)
  | _, _, _, .nil => .nil
  | _, _, 0, .cons _ t => t
  | _, _, i + 1, .cons r t => .cons r (Vals.eraseIdx i t)
theorem Vals.reverse {xs : List V} {us : List Value} (h : Vals xs us) : Vals xs.reverse us.reverse := by
  induction h with
  | nil => exact .nil
  | cons r t ih => rw [List.reverse_cons, List.reverse_cons]; exact Vals.append ih (.cons r .nil)
theorem Vals.rep {xs : List V} {us : List Value} (h : Vals xs us) : ∀ k : Nat, Vals (List.replicate k xs).flatten (List.replicate k us).flatten
  | 0 => .nil
  | k + 1 => by
    rw [List.replicate_succ, List.replicate_succ, List.flatten_cons, List.flatten_cons]
    exact Vals.append h (Vals.rep h k)
theorem erase_last {α : Type} (l : List α) : l.eraseIdx (l.length - 1) = l.dropLast := by
  induction l with
  | nil => rfl
  | cons a r ih =>
    cases r with
    | nil => rfl
    | cons b r =>
      have e : (a :: b :: r).length - 1 = ((b :: r).length - 1) + 1 := by
        have h1 : (a :: b :: r).length = r.length + 2 := rfl
        have h2 : (b :: r).length = r.length + 1 := rfl
        omega
      rw [e, List.eraseIdx_cons_succ, ih]
      all_goals rfl
theorem len_erase {α : Type} : ∀ (l : List α) (i : Nat), (l.eraseIdx i).length ≤ l.length
  | [], _ => Nat.le_refl _
  | _ :: _, 0 => Nat.le_succ _
  | _ :: r, i + 1 => Nat.succ_le_succ (len_erase r i)
theorem foldl_rep (its : List Value) : ∀ (k : Nat) (acc : List Value),
    List.foldl (fun x1 x2 => x1 ++ x2) acc.toArray (List.replicate k its.toArray) = (acc ++ (List.replicate k its).flatten).toArray
  | 0, acc => by simp
  | k + 1, acc => by
    have e : acc.toArray ++ its.toArray = (acc ++ its).toArray := by simp
    have e2 : (acc ++ its) ++ (List.replicate k its).flatten = acc ++ (List.replicate (k + 1) its).flatten := by
      rw [List.replicate_succ, List.flatten_cons, List.append_assoc]
    rw [← e2, ← foldl_rep its k (acc ++ its), ← e, List.replicate_succ, List.foldl_cons]

section
variable {X : Cx} {pins : List (Addr × Obj)} {σ : St} {H : Hp} {s : Shared} {l b : Addr} {xs ys zs : List V}

/-! ### the two steps: a tracked list is rewritten, a new list is laid -/
theorem Inv.lset {its its' : List Value} {n : Nat} {f : Array Value → Array Value} {t' : Nat} (I : Inv X pins σ H s) (hH : H l = some (.lst xs))
    (e : s.heap.get? l = some { cls := .type "list", data := .seq its.toArray n }) (hf : f its.toArray = its'.toArray) (hv : Vals ys its') (hz : ys.length ≤ sizeLine) :
    Inv X pins σ (upd H l (.lst ys)) { s with heap := s.heap.update l (Obj.mapSeq f), toks := t' } := by
  have q := PySem.IsL.update e f
  rw [hf] at q
  refine I.write (x := l) (e := l) (by rw [hH]; exact trivial) (.inl rfl) (fun b' u hb hu => (Heap.get?_update_other s.heap (Obj.mapSeq f) (Ne.symm hb)).trans hu) ⟨_, q⟩ ?_
  exact ⟨hz, its', _, hv, q⟩
theorem Inv.lnew {its : List Value} {t' : Nat} (I : Inv X pins σ H s) (hv : Vals ys its) (hz : ys.length ≤ sizeLine) :
    Inv X pins σ (upd H s.heap.objs.size (.lst ys)) { s with heap := s.heap.push { cls := .type "list", data := .seq its.toArray }, toks := t' } :=
  I.laid (fun _ _ q => Heap.get?_push_of_some _ q) (Nat.le_refl _) ⟨hz, its, 0, hv, Heap.get?_push_size _ rfl⟩
theorem Inv.fresh (I : Inv X pins σ H s) : H s.heap.objs.size = none := I.hok.fresh (Nat.le_refl _)
theorem Inv.lstM (I : Inv X pins σ H s) (hH : H l = some (.lst xs)) : xs.length ≤ sizeLine ∧ ∃ (its : List Value) (n : Nat), Vals xs its ∧ xs.length = its.length ∧ s.heap.get? l = some { cls := .type "list", data := .seq its.toArray n } := by
  obtain ⟨z, its, n, r, e⟩ := I.hok l _ hH
  exact ⟨z, its, n, r, r.length, e⟩

theorem notLongL {n : Nat} (h : n ≤ sizeLine) : Builtin.List.listTooLong n = false := by
  unfold Builtin.List.listTooLong
  exact decide_eq_false (by omega)
end

section
variable {X : Cx}

/-! ### methods -/
def rAppend : V → List V → Hp → VK → Prop := fun x vs H Q => ∃ l xs y, x = .ref l ∧ vs = [y] ∧ H l = some (.lst xs) ∧ xs.length < sizeLine ∧ Q .non (upd H l (.lst (xs ++ [y])))
theorem mt_append : MtM X "list.append" rAppend := by
  intro pins s σ H x vs v us Q I rx rv h
  obtain ⟨l, xs, y, rfl, rfl, hH, hz, q⟩ := h
  cases rx
  obtain ⟨u, rfl, ru⟩ := rv.one
  obtain ⟨z, its, n, r, hl, e⟩ := I.lstM hH
  refine call_meets F.slot_list_append ⟨_, e, rfl⟩ F.entry_list_append (F.args_list_append_2 _ _) (PySem.list_append l its.toArray n u (by rw [List.size_toArray]; omega)) ⟨e, ?_⟩
  refine ⟨.non, _, I.lset (its' := its ++ [u]) hH e (by simp) (r.append (.cons ru .nil)) ?_, rfl, q⟩
  rw [List.length_append, List.length_singleton]
  omega

def rExtend : V → List V → Hp → VK → Prop := fun x vs H Q => ∃ l b xs zs, x = .ref l ∧ vs = [.ref b] ∧ H l = some (.lst xs) ∧ H b = some (.lst zs) ∧ xs.length + zs.length ≤ sizeLine ∧ Q .non (upd H l (.lst (xs ++ zs)))
theorem mt_extend : MtM X "list.extend" rExtend := by
  intro pins s σ H x vs v us Q I rx rv h
  obtain ⟨l, b, xs, zs, rfl, rfl, hH, hB, hz, q⟩ := h
  cases rx
  obtain ⟨u, rfl, ru⟩ := rv.one
  cases ru
  obtain ⟨z, its, n, r, hl, e⟩ := I.lstM hH
  obtain ⟨z2, its2, n2, r2, hl2, e2⟩ := I.lstM hB
  have hsz : its.toArray.size + its2.toArray.size ≤ sizeLine := by rw [List.size_toArray, List.size_toArray]; omega
  have hlong : ¬ (!its.toArray.isEmpty && Builtin.List.listTooLong (its.toArray.size + its2.toArray.size)) = true := by
    rw [notLongL hsz, Bool.and_false]
    exact Bool.false_ne_true
  refine call_meets F.slot_list_extend ⟨_, e, rfl⟩ F.entry_list_extend (F.args_list_extend_2 _ _)
    (AutoSeq1.list_extend_list_list_0 l its.toArray n b its2.toArray n2 hlong (by rw [List.size_toArray]; omega) (by omega)) ⟨e, e2, ?_⟩
  refine ⟨.non, _, I.lset (its' := its ++ its2) hH e (by simp) (r.append r2) ?_, rfl, q⟩
  rw [List.length_append]
  omega

def rPop : V → List V → Hp → VK → Prop := fun x vs H Q => ∃ l xs y, x = .ref l ∧ vs = [] ∧ H l = some (.lst xs) ∧ xs[xs.length - 1]? = some y ∧ Q y (upd H l (.lst xs.dropLast))
theorem mt_pop : MtM X "list.pop" rPop := by
  intro pins s σ H x vs v us Q I rx rv h
  obtain ⟨l, xs, y, rfl, rfl, hH, hy, q⟩ := h
  cases rx
  have hus := rv.zero
  subst hus
  obtain ⟨z, its, n, r, hl, e⟩ := I.lstM hH
  obtain ⟨u, hu, ru⟩ := r.get hy
  have hy' : its.toArray[its.toArray.size - 1]? = some u := by
    show its.toArray[its.length - 1]? = some u
    rw [← Array.getElem?_toList, ← hl]
    exact hu
  refine call_meets F.slot_list_pop ⟨_, e, rfl⟩ F.entry_list_pop (F.args_list_pop_1 _) (MeetsSeq.list_pop_last l its.toArray n u hy' (by rw [List.size_toArray]; omega)) ⟨e, ?_⟩
  refine ⟨y, _, I.lset (its' := its.dropLast) hH e ?_ r.dropLast ?_, ru, q⟩
  · show its.toArray.eraseIdxIfInBounds (its.toArray.size - 1) = its.dropLast.toArray
    rw [List.size_toArray, List.eraseIdxIfInBounds_toArray, erase_last]
  · rw [List.length_dropLast]
    omega

def rPopAt : V → List V → Hp → VK → Prop := fun x vs H Q => ∃ l xs i k y, x = .ref l ∧ vs = [.int i] ∧ H l = some (.lst xs) ∧ -(2 ^ 63) ≤ i ∧ i < 2 ^ 63 ∧ seqIndex? i xs.length = some k ∧ xs[k]? = some y ∧ Q y (upd H l (.lst (xs.eraseIdx k)))
theorem mt_popAt : MtM X "list.pop" rPopAt := by
  intro pins s σ H x vs v us Q I rx rv h
  obtain ⟨l, xs, i, k, y, rfl, rfl, hH, h1, h2, hk, hy, q⟩ := h
  cases rx
  obtain ⟨u, rfl, ru⟩ := rv.one
  obtain ⟨t, rfl⟩ := ru
  obtain ⟨z, its, n, r, hl, e⟩ := I.lstM hH
  obtain ⟨w, hw, rw'⟩ := r.get hy
  refine call_meets F.slot_list_pop ⟨_, e, rfl⟩ F.entry_list_pop (F.args_list_pop_2 _ _)
    (MeetsSeq.list_pop_at l its.toArray n i t k w (fitsIndex_both h1 h2) (by rw [List.size_toArray, ← hl]; exact hk) (by rw [← Array.getElem?_toList]; exact hw) (by rw [List.size_toArray]; omega)) ⟨e, ?_⟩
  refine ⟨y, _, I.lset (its' := its.eraseIdx k) hH e ?_ (r.eraseIdx k) ?_, rw', q⟩
  · show its.toArray.eraseIdxIfInBounds k = (its.eraseIdx k).toArray
    rw [List.eraseIdxIfInBounds_toArray]
  · have := len_erase xs k
    omega

def rReverse : V → List V → Hp → VK → Prop := fun x vs H Q => ∃ l xs, x = .ref l ∧ vs = [] ∧ H l = some (.lst xs) ∧ Q .non (upd H l (.lst xs.reverse))
theorem mt_reverse : MtM X "list.reverse" rReverse := by
  intro pins s σ H x vs v us Q I rx rv h
  obtain ⟨l, xs, rfl, rfl, hH, q⟩ := h
  cases rx
  have hus := rv.zero
  subst hus
  obtain ⟨z, its, n, r, hl, e⟩ := I.lstM hH
  refine call_meets F.slot_list_reverse ⟨_, e, rfl⟩ F.entry_list_reverse (F.args_list_reverse_1 _) (AutoSeq1.list_reverse_list_0 l its.toArray n (by rw [List.size_toArray]; omega)) ⟨e, ?_⟩
  refine ⟨.non, _, I.lset (its' := its.reverse) hH e (by simp) r.reverse ?_, rfl, q⟩
  rw [List.length_reverse]
  omega

def rClear : V → List V → Hp → VK → Prop := fun x vs H Q => ∃ l xs, x = .ref l ∧ vs = [] ∧ H l = some (.lst xs) ∧ Q .non (upd H l (.lst []))
theorem mt_clear : MtM X "list.clear" rClear := by
  intro pins s σ H x vs v us Q I rx rv h
  obtain ⟨l, xs, rfl, rfl, hH, q⟩ := h
  cases rx
  have hus := rv.zero
  subst hus
  obtain ⟨z, its, n, r, hl, e⟩ := I.lstM hH
  refine call_meets F.slot_list_clear ⟨_, e, rfl⟩ F.entry_list_clear (F.args_list_clear_1 _) (AutoSeq1.list_clear_list_0 l its.toArray n (by rw [List.size_toArray]; omega)) ⟨e, ?_⟩
  exact ⟨.non, _, I.lset (its' := []) (ys := []) hH e rfl .nil (Nat.zero_le _), rfl, q⟩

/-! ### list + list, list += list, list * int -/
def rCat : R2 := fun x y H Q => ∃ l b xs zs, x = .ref l ∧ y = .ref b ∧ H l = some (.lst xs) ∧ H b = some (.lst zs) ∧ xs.length + zs.length ≤ sizeLine ∧ ∀ p, H p = none → Q (.ref p) (upd H p (.lst (xs ++ zs)))
theorem op_cat : OpR X (binaryOp .Add) rCat := by
  intro pins s σ H x y v u Q I rx ry h
  obtain ⟨l, b, xs, zs, rfl, rfl, hH, hB, hz, q⟩ := h
  cases rx
  cases ry
  obtain ⟨z, its, n, r, hl, e⟩ := I.lstM hH
  obtain ⟨z2, its2, n2, r2, hl2, e2⟩ := I.lstM hB
  refine PySem.P.add_list e e2 ?_ (by rw [List.size_toArray, List.size_toArray]; omega)
  have ea : its.toArray ++ its2.toArray = (its ++ its2).toArray := by simp
  rw [ea]
  exact ⟨.ref _, _, I.lnew (t' := s.toks) (r.append r2) (by rw [List.length_append]; omega), rfl, q _ I.fresh⟩
/-- a list times an int (a negative one is nothing) -/
def rRep : R2 := fun x y H Q => ∃ l k xs, x = .ref l ∧ y = .int k ∧ H l = some (.lst xs) ∧ -(2 ^ 63) ≤ k ∧ k < 2 ^ 63 ∧ xs.length * k.toNat ≤ sizeLine ∧
  ∀ p, H p = none → Q (.ref p) (upd H p (.lst (List.replicate k.toNat xs).flatten))
theorem len_rep {α : Type} (xs : List α) (k : Nat) : (List.replicate k xs).flatten.length = k * xs.length := by
  induction k with
  | zero => simp
  | succ k ih => rw [List.replicate_succ, List.flatten_cons, List.length_append, ih, Nat.succ_mul, Nat.add_comm]
theorem op_rep : OpR X (binaryOp .Mult) rRep := by
  intro pins s σ H x y v u Q I rx ry h
  obtain ⟨l, k, xs, rfl, rfl, hH, h1, h2, hz, q⟩ := h
  cases rx
  obtain ⟨t, rfl⟩ := ry
  obtain ⟨z, its, n, r, hl, e⟩ := I.lstM hH
  have hlen : its.toArray.size * k.toNat ≤ sizeLine := by rw [List.size_toArray, ← hl]; exact hz
  have hcap : ¬ its.toArray.size * k.toNat > (2 ^ 63 - 1) / 8 := by
    have : (sizeLine : Nat) ≤ (2 ^ 63 - 1) / 8 := by decide
    omega
  have hfit : ¬ (!Builtin.List.listFitsIndex k) = true := by
    rw [fitsIndex_both h1 h2]
    exact Bool.false_ne_true
  have hlong : ¬ Builtin.List.listTooLong (its.toArray.size * k.toNat) = true := by
    rw [notLongL hlen]
    exact Bool.false_ne_true
  have hnew : List.foldl (fun x1 x2 => x1 ++ x2) #[] (List.replicate (if its.toArray.isEmpty = true then 0 else k.toNat) its.toArray) = (List.replicate k.toNat its).flatten.toArray := by
    have f0 : ∀ m : Nat, List.foldl (fun x1 x2 => x1 ++ x2) #[] (List.replicate m its.toArray) = (List.replicate m its).flatten.toArray := fun m => by
      have := foldl_rep its m []
      rw [List.nil_append] at this
      exact this
    rw [f0]
    cases its with
    | nil => simp
    | cons a r' => rw [if_neg (by simp)]
  refine wpAny_binaryOp_repeat_ref (T := "list") (U := "int") (by decide) ⟨_, e, rfl⟩ (fun s' => typeIs_int s' k t) noFill_list_mul F.fills_int_mul F.slot_int_rmul repeat_list F.slot_int_index.lookup
    (call_meets F.slot_int_rmul (typeIs_int s k t) F.entry_int_rmul (F.args_int_rmul_2 _ _) (int___rmul___int_list k t l its.toArray n)
      ⟨e, rfl, ⟨_, e, rfl⟩, call_meets F.slot_list_mul ⟨_, e, rfl⟩ F.entry_list_mul (F.args_list_mul_2 _ _) (AutoListH.list___mul___list_int_3 l its.toArray n k t hfit hcap hlong) ⟨e, ?_⟩⟩)
  rw [hnew]
  exact ⟨.ref _, _, I.lnew (t' := s.toks) (r.rep k.toNat) (by rw [len_rep, Nat.mul_comm]; exact hz), rfl, q _ I.fresh⟩

/-! ### del xs[i] -/
theorem del_list {pins : List (Addr × Obj)} {s : Shared} {σ : St} {H : Hp} {l : Addr} {xs : List V} {i : Int} {t : Tok} {k : Nat} {Q : Unit → Shared → Prop} (I : Inv X pins σ H s) (hH : H l = some (.lst xs))
    (h1 : -(2 ^ 63) ≤ i) (h2 : i < 2 ^ 63) (hk : seqIndex? i xs.length = some k) (h : ∀ s', Inv X pins σ (upd H l (.lst (xs.eraseIdx k))) s' → Q () s') :
    wpAny (model X.prog X.w) X.A (delItem (.ref l) (.int i t)) Q X.xe s := by
  obtain ⟨z, its, n, r, hl, e⟩ := I.lstM hH
  refine PySem.P.delItem_list (k := k) e (fitsIndex_both h1 h2) (by rw [List.size_toArray, ← hl]; exact hk) (h _ ?_) (by rw [List.size_toArray]; omega)
  refine I.lset (its' := its.eraseIdx k) (t' := s.toks) hH e ?_ (r.eraseIdx k) ?_
  · show its.toArray.eraseIdxIfInBounds k = (its.eraseIdx k).toArray
    rw [List.eraseIdxIfInBounds_toArray]
  · have := len_erase xs k
    omega
end

/-! ### xs[a:b] = ys -/
section
variable {prog : Program} {w : World} {A : Around} {E : Value → Shared → Prop} {s : Shared}
theorem splice_eq (its its2 : List Value) (a c : Nat) : its.toArray.extract 0 a ++ its2.toArray ++ its.toArray.extract c its.toArray.size = (its.take a ++ its2 ++ its.drop c).toArray := by
  apply Array.toList_inj.mp
  first
    | (simp
       exact List.take_of_length_le (by simp))
    | simp [List.take_of_length_le]
    | simp
theorem bounds_run {a c n : Nat} (hac : a ≤ c) (hc : c ≤ n) : sliceBounds (some (a : Int)) (some (c : Int)) none n = ((a : Int), (c : Int), 1) := by
  simp only [sliceBounds, Option.getD_none]
  have h1 : ¬ ((a : Int) < 0) := by omega
  have h2 : ¬ ((c : Int) < 0) := by omega
  simp only [h1, h2, if_false, show (1 : Int) > 0 by decide, if_true]
  congr 1
  · omega
  · congr 1; omega
set_option maxRecDepth 100000 in
/-- list.__setitem__ with a slice of step one and another list -/
theorem setItem_slice {l b sl : Addr} {items new : Array Value} {n n2 : Nat} {vl vu : Value} {a c : Nat} {Q : Unit → Shared → Prop}
    (e : s.heap.get? l = some { cls := .type "list", data := .seq items n }) (e2 : s.heap.get? b = some { cls := .type "list", data := .seq new n2 }) (hne : l ≠ b)
    (hs : s.heap.IsSliceOf sl vl vu .none) (pl : IsPart vl (some (a : Int))) (pu : IsPart vu (some (c : Int))) (hac : a ≤ c) (hc : c ≤ items.size)
    (hsz : items.size + new.size ≤ sizeLine) (h : Q () { s with heap := s.heap.update l (Obj.mapSeq fun xs => xs.extract 0 a ++ new ++ xs.extract c xs.size) }) :
    wpAny (model prog w) A (setItem (.ref l) (.ref sl) (.ref b)) Q E s := by
  have hl : s.heap.IsList l items := PySem.IsL.isList e
  have hb : s.heap.IsList b new := PySem.IsL.isList e2
  obtain ⟨os, hos, hcs, hds⟩ := id hs
  have hTs : s.TypeIs (.ref sl) "slice" := ⟨os, hos, hcs⟩
  have hstep : ¬ ((rawPart none == rawInt 0) = true) := Bool.false_ne_true
  have hsame : Builtin.List.listSameRef (.ref l) (.ref b) = false := by
    unfold Builtin.List.listSameRef
    exact beq_eq_false_iff_ne.mpr hne
  have hmax : (max (a : Int) (c : Int)).toNat = c := by omega
  have hz' : ((fun xs : Array Value => xs.extract 0 a ++ new ++ xs.extract c xs.size) items).size ≤ sizeLine + 1 := by
    simp only [Array.size_append, Array.size_extract]
    omega
  unfold setItem
  try with_reducible refine wpAny_holding ?_
  first | refine wpAny_bind (wpAny_pure ?_) | skip
  refine wpAny_bind (wpAny_sequenceKey hl.typeIs (by decide) ?_)
  refine wpAny_bind (wpAny_callSpecial?_slot (name := Str.ofString "__setitem__") hl.typeIs slot_list_setitem
    (wpAny_call_entry slot_list_setitem hl.typeIs entry_list_setitem ?_ (args_list_setitem _ _ _)))
  show wpAny _ _ (Builtin.List.listSubscript? (.ref sl) >>= _) _ _ s
  refine wpAny_bind ?_
  unfold Builtin.List.listSubscript?
  refine wpAny_bind (wpAny_specialOf hTs slice_no_index ?_)
  simp only [Option.isNone_none, if_true]
  refine wpAny_pure ?_
  show wpAny _ _ (typeOf (.ref sl) >>= _) _ _ s
  refine wpAny_bind (wpAny_typeOf hTs ?_)
  first
    | rw [if_neg (by decide)]
    | refine PySem.W.KFB.if_not (by decide) ?_
  rw [listSliceParts_eq]
  refine wpAny_bind (wpAny_bind (wpAny_field hos hds (x := .none) rfl (wpAny_bind (wpAny_listPart .none ?_))))
  rw [if_neg hstep]
  refine wpAny_bind (wpAny_field hos hds (x := vl) rfl (wpAny_bind (wpAny_listPart pl ?_)))
  refine wpAny_bind (wpAny_field hos hds (x := vu) rfl (wpAny_bind (wpAny_listPart pu (wpAny_pure ?_))))
  first
    | simp only [hsame, Bool.false_eq_true, if_false]
    | refine PySem.W.KFB.if_not hsame ?_
    | (dsimp only
       rw [if_neg (by rw [hsame]; exact Bool.false_ne_true)])
  refine wpAny_bind (m := Builtin.List.listAllItems (.ref b) "must assign iterable to extended slice") ?_
  unfold Builtin.List.listAllItems
  refine wpAny_bind (wpAny_typeOf hb.typeIs ?_)
  first
    | refine PySem.W.KFB.if_so (by decide) ?_
    | rw [if_pos (by decide)]
    | simp only [beq_self_eq_true, Bool.true_or, if_true]
  unfold Builtin.List.listItems
  refine wpAny_bind (wpAny_seqItems e2 rfl (wpAny_pure ?_))
  refine wpAny_bind (wpAny_bind (wpAny_seqItems e rfl (wpAny_pure ?_)))
  refine wpAny_bind (wpAny_of_eq ((sliceIndices_raw (some (a : Int)) (some (c : Int)) none items.size (by simp)).trans (congrArg (pure : Int × Int × Int → Sem (Int × Int × Int)) (bounds_run hac hc))) ?_)
  show wpAny _ _ (if ((1 : Int) == 1) = true then _ else _) _ _ s
  rw [if_pos (by decide)]
  refine wpAny_bind (wpAny_rule ?_)
  first
    | simp only [notLongL hsz, Bool.false_eq_true, if_false]
    | refine PySem.W.KFB.if_not (notLongL hsz) ?_
  first | refine wpAny_bind (wpAny_pure ?_) | skip
  show wpAny _ _ (updateSeq l (fun xs => xs.extract 0 ((a : Int)).toNat ++ new ++ xs.extract (max (a : Int) (c : Int)).toNat xs.size) >>= _) _ _ s
  rw [hmax, Int.toNat_natCast]
  refine wpAny_bind (wpAny_updateSeq (hz := Nat.le_trans (Nat.le_add_right _ _) hsz) (_hz' := hz') e rfl ?_)
  refine wpAny_bind (wpAny_letGo ?_)
  first
    | exact wpAny_bind (wpAny_pure (wpAny_pure ⟨.none, rfl, wpAny_pure h⟩))
    | exact wpAny_pure ⟨.none, rfl, wpAny_pure h⟩
end

section
variable {X : Cx}
/-- xs[a:c] = ys of another list, at the value level: sl is the slice object that was just made -/
theorem set_slice {pins : List (Addr × Obj)} {s : Shared} {σ : St} {H : Hp} {l b sl : Addr} {xs ys : List V} {a c : Int} {vl vu : Value} {Q : Unit → Shared → Prop} (I : Inv X pins σ H s)
    (hH : H l = some (.lst xs)) (hB : H b = some (.lst ys)) (hne : l ≠ b) (hs : s.heap.IsSliceOf sl vl vu .none) (ra : RelV (.int a) vl) (rc : RelV (.int c) vu) (h0 : 0 ≤ a) (hac : a ≤ c) (hc : c ≤ xs.length)
    (hz : xs.length + ys.length ≤ sizeLine) (h : ∀ s', Inv X pins σ (upd H l (.lst (xs.take a.toNat ++ ys ++ xs.drop c.toNat))) s' → Q () s') :
    wpAny (model X.prog X.w) X.A (setItem (.ref l) (.ref sl) (.ref b)) Q X.xe s := by
  obtain ⟨ta, rfl⟩ := ra
  obtain ⟨tc, rfl⟩ := rc
  obtain ⟨z, its, n, r, hl, e⟩ := I.lstM hH
  obtain ⟨z2, its2, n2, r2, hl2, e2⟩ := I.lstM hB
  obtain ⟨a', rfl⟩ := Int.eq_ofNat_of_zero_le h0
  obtain ⟨c', rfl⟩ := Int.eq_ofNat_of_zero_le (Int.le_trans h0 hac)
  simp only [Int.toNat_natCast] at h
  refine setItem_slice (a := a') (c := c') e e2 hne hs (.int _ _) (.int _ _) (by omega) (by rw [List.size_toArray]; omega) (by rw [List.size_toArray, List.size_toArray]; omega) (h _ ?_)
  refine I.lset (its' := its.take a' ++ its2 ++ its.drop c') (t' := s.toks) hH e ?_ (Vals.append (Vals.append (r.take _) r2) (r.drop _)) ?_
  · exact splice_eq its its2 a' c'
  · rw [List.length_append, List.length_append, List.length_take, List.length_drop]
    omega
end
end L2

namespace Att
open PySem PySem.W PySem.Calls PyProof.Rows

/-! ### the script -/
theorem ints_of_wellAll {P : Params} {h : Heap} : ∀ (ns : List Int) (vs : List Value), WellAll P h vs (ns.map WData.int) → IntsAre vs ns := by
  intro ns
  induction ns with
  | nil =>
    intro vs w
    rw [List.map_nil] at w
    cases w
    exact .nil
  | cons n ns ih =>
    intro vs w
    rw [List.map_cons] at w
    cases w with
    | cons a b =>
      cases a
      exact .cons _ _ (ih _ b)

theorem script_of {l : OpenLaw} {n : Nat} (hn : l.most = some n) {P : Params} {h : Heap} {args : List WData} {vals : List Value}
    (hpre : l.row.toRowW.claim.pre args = true) (hwl : WellAll P h vals args) :
    ∃ a vs ns, vals = [Value.ref a] ∧ args = [WData.list (ns.map WData.int)] ∧ h.get? a = some { cls := .type "list", data := .seq vs.toArray } ∧ IntsAre vs ns ∧ ns.length ≤ n := by
  have hsh : WShape.hasAll [] args [.list .int] = true := (pre_splitW hpre).1
  have hc : l.pre.holds [] { args := args } = true := (pre_splitW hpre).2
  obtain ⟨d, r, rfl, h1, h2⟩ := hasAllW_cons hsh
  obtain rfl := hasAllW_nil h2
  obtain ⟨xs, rfl, h3⟩ := hasW_list h1
  obtain ⟨ns, rfl⟩ := items_int h3
  have hlen : ns.length ≤ n := by
    unfold OpenLaw.pre at hc
    have h4 : (WTm.not (.lt (.lit (.int (n : Int))) (.len (.arg 0)))).holds [] { args := [.list (ns.map .int)] } = true := by
      have h4 := (holds_andW hc).1
      rw [hn] at h4
      exact h4
    have h5 := condW_of h4 (w_not (w_lt w_lit (w_len_list (w_arg rfl))))
    rw [List.length_map] at h5
    refine Nat.le_of_not_lt fun q => ?_
    have q' : (n : Int) < ((ns.length : Nat) : Int) := by omega
    first
      | (rw [decide_eq_true q'] at h5; exact absurd h5 (by decide))
      | (simp at h5; omega)
  cases hwl with
  | cons w1 w2 =>
    cases w2
    cases w1 with
    | list ho hall => exact ⟨_, _, ns, rfl, rfl, ho, ints_of_wellAll ns _ hall, hlen⟩

theorem post_true (l : OpenLaw) (args : List WData) : l.row.toRowW.claim.post args (.bool true) args = true :=
  postW_of (r := l.row.toRowW) (X := (true == true))
    (show WShape.has [] (.bool true) .bool = true by first | rfl | decide | simp [WShape.has, WShape.arms, WShape.armsAll])
    (show (WTm.eq .res (.lit (.bool true))).value [] { args := args, res := some (.bool true), after := args } = some (.bool (true == true)) from w_eq_bool (w_res rfl) w_lit) rfl

/-! ### the attachment: holds_open's last premise (the goal 'hc' behind k_head) from a wpAny of the law's body -/
theorem attach {l : OpenLaw} {n : Nat} {q : Program} {loose : List Str} {XP : (Str → Option Value) → Heap → Prop} {YP : World → Heap → Prop} {d : DefRec} {x : Str}
    (hn : l.most = some n) (hdf : d.params.defaults = [])
    (hbind : ∀ pm cd doc v : Value, bindArgs (docDef d.name d.params d.body d.scope pm cd doc) ⟨[v], []⟩ = pure [(x, v)])
    (hx : d.scope.names.lookup x = some .local ∨ d.scope.names.lookup x = some .cell)
    (hk : d.scope.kind = .function) (hco : d.scope.isCoroutine = false) (hgen : d.scope.isGenerator = false)
    (body : ∀ (w : World) (s₀ s₁ s : Shared) (mg mb : Str → Option Value) (fa : Addr) (o : Obj) (pm cd doc : Value) (a : Addr) (vs : List Value) (ns : List Int),
      Ground q loose [] XP w s₀ mg mb s₁.heap → YP w s₁.heap →
      s₁.heap.get? fa = some o → o.data = .func (docDef d.name d.params d.body d.scope pm cd doc) → s₁.heap.CodeRec cd d.name → mg d.name = some (.ref fa) →
      s₁.heap.get? a = some { cls := .type "list", data := .seq vs.toArray } → IntsAre vs ns → ns.length ≤ n →
      s.gens = #[] → s.os = s₁.os →
      Fr s₁.heap s₁.heap.objs.size s.heap (bindL (envOfC d.name d.scope s₁.heap.objs.size fa cd).kindOf [(x, .ref a)] fun _ => none) →
      Cl s₁.heap.objs.size (cellsFrom (s₁.heap.objs.size + 1) d.scope.names []) s.heap (bindC (envOfC d.name d.scope s₁.heap.objs.size fa cd).kindOf [(x, .ref a)] fun _ => none) →
      wpAny (model l.prog w) (callerA.deeper (envOfC d.name d.scope s₁.heap.objs.size fa cd)) (execs d.body (envOfC d.name d.scope s₁.heap.objs.size fa cd))
        (fun f s' => f = .ret (.bool true) ∧ OldK s₁.heap s'.heap ∧ s'.os = s₁.os ∧ AllBare s'.gens) (fun _ _ => False) s) :
    WalkO q loose XP YP l.row.toRowW d [] (fun f vs => PySem.call f vs) := by
  intro w s₀ s₁ mg mb G Y fa o pm cd doc dV kV ho hd hcd hD hmg hg args vals as hpre hlay hrd hwl hlo
  obtain rfl : dV = .none := Dflts.none hD hdf
  obtain rfl : kV = .none := Dflts.noKw hD
  obtain ⟨a, vs, ns, rfl, rfl, hobj, hints, hlen⟩ := script_of hn hpre hwl
  refine enter_call ?_
  refine call_cells_ret (o := o) (by rw [depth_caller]; decide) ho (fd_plain hd) G.T.nolimit hcd (hbind pm cd doc (.ref a)) (fun y hy => ?_) (fun h₁ tk F X => ?_) hco hgen hk
  · obtain rfl : y = (x, Value.ref a) := List.mem_singleton.mp hy
    rcases hx with e | e
    · exact .inl e
    · exact .inr ⟨e, cellsFrom_some _ _ _ (.inl e)⟩
  · refine wpAny_mono (body w s₀ s₁ { s₁ with heap := h₁, toks := tk } mg mb fa o pm cd doc a vs ns G Y ho (fd_plain hd) hcd hmg hobj hints hlen hg rfl F X) (fun f s' hq => ?_) (fun _ _ hq => hq)
    obtain ⟨rfl, h2, h3, h4⟩ := hq
    exact ⟨.inl ⟨.bool true, .bool true, [], rfl, fun _ => rfl, .bool true, post_true l _, fun _ => ⟨List.Pairwise.nil, fun _ hm => (nomatch hm)⟩⟩, h2, h3, h4⟩

/-- the same from a codeAny of the CALL (for a layer whose function contracts speak of calls) -/
theorem attach_call {l : OpenLaw} {n : Nat} {q : Program} {loose : List Str} {XP : (Str → Option Value) → Heap → Prop} {YP : World → Heap → Prop} {d : DefRec}
    (hn : l.most = some n) (hdf : d.params.defaults = [])
    (call : ∀ (w : World) (s₀ s₁ : Shared) (mg mb : Str → Option Value) (fa : Addr) (o : Obj) (pm cd doc : Value) (a : Addr) (vs : List Value) (ns : List Int),
      Ground q loose [] XP w s₀ mg mb s₁.heap → YP w s₁.heap →
      s₁.heap.get? fa = some o → o.data = .func (docDef d.name d.params d.body d.scope pm cd doc) → s₁.heap.CodeRec cd d.name → mg d.name = some (.ref fa) →
      s₁.heap.get? a = some { cls := .type "list", data := .seq vs.toArray } → IntsAre vs ns → ns.length ≤ n → s₁.gens = #[] →
      codeAny (model l.prog w) callerA (.call (.ref fa) ⟨[.ref a], []⟩) (fun r s' => r = .ok (.ret (.bool true)) ∧ OldK s₁.heap s'.heap ∧ s'.os = s₁.os ∧ AllBare s'.gens) s₁) :
    WalkO q loose XP YP l.row.toRowW d [] (fun f vs => PySem.call f vs) := by
  intro w s₀ s₁ mg mb G Y fa o pm cd doc dV kV ho hd hcd hD hmg hg args vals as hpre hlay hrd hwl hlo
  obtain rfl : dV = .none := Dflts.none hD hdf
  obtain rfl : kV = .none := Dflts.noKw hD
  obtain ⟨a, vs, ns, rfl, rfl, hobj, hints, hlen⟩ := script_of hn hpre hwl
  refine enter_call (codeAny_mono (call w s₀ s₁ mg mb fa o pm cd doc a vs ns G Y ho (fd_plain hd) hcd hmg hobj hints hlen hg) fun r s' hq => ?_)
  obtain ⟨rfl, h2, h3, h4⟩ := hq
  exact ⟨.inl ⟨.bool true, .bool true, [], rfl, fun _ => rfl, .bool true, post_true l _, fun _ => ⟨List.Pairwise.nil, fun _ hm => (nomatch hm)⟩⟩, h2, h3, h4⟩

/-- the same where the top left finished generators (o_head chose holds_openN): nothing may have changed at all and no generator may be left -/
theorem attachN {l : OpenLaw} {n : Nat} {q : Program} {loose : List Str} {XP : (Str → Option Value) → Heap → Prop} {YP : World → Heap → Prop} {d : DefRec} {x : Str}
    (hn : l.most = some n) (hdf : d.params.defaults = [])
    (hbind : ∀ pm cd doc v : Value, bindArgs (docDef d.name d.params d.body d.scope pm cd doc) ⟨[v], []⟩ = pure [(x, v)])
    (hx : d.scope.names.lookup x = some .local ∨ d.scope.names.lookup x = some .cell)
    (hk : d.scope.kind = .function) (hco : d.scope.isCoroutine = false) (hgen : d.scope.isGenerator = false)
    (body : ∀ (w : World) (s₀ s₁ s : Shared) (mg mb : Str → Option Value) (fa : Addr) (o : Obj) (pm cd doc : Value) (a : Addr) (vs : List Value) (ns : List Int),
      Ground q loose [] XP w s₀ mg mb s₁.heap → YP w s₁.heap →
      s₁.heap.get? fa = some o → o.data = .func (docDef d.name d.params d.body d.scope pm cd doc) → s₁.heap.CodeRec cd d.name → mg d.name = some (.ref fa) →
      s₁.heap.get? a = some { cls := .type "list", data := .seq vs.toArray } → IntsAre vs ns → ns.length ≤ n →
      s.gens = #[] → s.os = s₁.os →
      Fr s₁.heap s₁.heap.objs.size s.heap (bindL (envOfC d.name d.scope s₁.heap.objs.size fa cd).kindOf [(x, .ref a)] fun _ => none) →
      Cl s₁.heap.objs.size (cellsFrom (s₁.heap.objs.size + 1) d.scope.names []) s.heap (bindC (envOfC d.name d.scope s₁.heap.objs.size fa cd).kindOf [(x, .ref a)] fun _ => none) →
      wpAny (model l.prog w) (callerA.deeper (envOfC d.name d.scope s₁.heap.objs.size fa cd)) (execs d.body (envOfC d.name d.scope s₁.heap.objs.size fa cd))
        (fun f s' => f = .ret (.bool true) ∧ (∀ b o, s₁.heap.get? b = some o → s'.heap.get? b = some o) ∧ s'.os = s₁.os ∧ s'.gens = #[]) (fun _ _ => False) s) :
    WalkN q loose XP YP l.row.toRowW d [] (fun f vs => PySem.call f vs) := by
  intro w s₀ s₁ mg mb G Y fa o pm cd doc dV kV ho hd hcd hD hmg hg args vals as hpre hlay hrd hwl hlo
  obtain rfl : dV = .none := Dflts.none hD hdf
  obtain rfl : kV = .none := Dflts.noKw hD
  obtain ⟨a, vs, ns, rfl, rfl, hobj, hints, hlen⟩ := script_of hn hpre hwl
  refine enter_callW ?_
  refine call_cells_ret (o := o) (by rw [depth_caller]; decide) ho (fd_plain hd) G.T.nolimit hcd (hbind pm cd doc (.ref a)) (fun y hy => ?_) (fun h₁ tk F X => ?_) hco hgen hk
  · obtain rfl : y = (x, Value.ref a) := List.mem_singleton.mp hy
    rcases hx with e | e
    · exact .inl e
    · exact .inr ⟨e, cellsFrom_some _ _ _ (.inl e)⟩
  · refine wpAny_mono (body w s₀ s₁ { s₁ with heap := h₁, toks := tk } mg mb fa o pm cd doc a vs ns G Y ho (fd_plain hd) hcd hmg hobj hints hlen hg rfl F X) (fun f s' hq => ?_) (fun _ _ hq => hq)
    obtain ⟨rfl, h2, h3, h4⟩ := hq
    exact ⟨.inl ⟨.bool true, .bool true, [], rfl, fun _ => rfl, .bool true, post_true l _, fun _ => ⟨List.Pairwise.nil, fun _ hm => (nomatch hm)⟩⟩, h2, h3, h4⟩

/-! ### rules over ANY heap (no ledger) from facts about the written part K: the library's own take a ledger (News) for what they write -/
section
variable {prog : Program} {w : World} {A : Around} {E : Value → Shared → Prop} {s : Shared} {K : Frag}

/-- a def of the module, or a method (qual 'C.m'), entered: the frame is the next address; cells behind it -/
theorem call_fn {R : Result → Shared → Prop} {name qual : Str} {params : Arguments} {body : List Stmt} {scope : Scope} {dV kV doc pm cdv ct oc : Value} {an od : Option Addr} {osl : Array (Option Value)} {f : Addr} {args : Args} {binds : List (Str × Value)}
    (X : K.In s.heap) (hlim : s.heap.NoLimit) (ho : K.lookup f = some ⟨oc, od, .func (fnOf name qual params body scope dV kV doc pm an cdv ct), osl⟩) (hcd : codeIn K cdv qual = true) (hroom : A.depth < recursionLimit)
    (hbind : BindsTo s (fnOf name qual params body scope dV kV doc pm an cdv ct) args binds)
    (hkind : (binds.all fun y => scope.names.lookup y.1 == some .local || scope.names.lookup y.1 == some .cell) = true)
    (h : ∀ s₁, InCallC s s.heap.objs.size (bindL (envOfC qual scope s.heap.objs.size f cdv).kindOf binds fun _ => none) (cellsFrom (s.heap.objs.size + 1) scope.names [])
        (bindC (envOfC qual scope s.heap.objs.size f cdv).kindOf binds fun _ => none) s₁ →
      wpAny (model prog w) (A.deeper (envOfC qual scope s.heap.objs.size f cdv)) (execs body (envOfC qual scope s.heap.objs.size f cdv))
        (fun fl s' => R (.ok (.ret (match fl with | .ret v => v | _ => .none))) s')
        (fun e s' => wpAny (model prog w) (A.deeper (envOfC qual scope s.heap.objs.size f cdv)) (leaving (envOfC qual scope s.heap.objs.size f cdv) e) (fun _ s'' => R (.error e) s'') (fun e' s'' => R (.error e') s'') s') s₁)
    (hco : scope.isCoroutine = false) (hgen : scope.isGenerator = false) (hk : scope.kind = .function) : codeAny (model prog w) A (.call (.ref f) args) R s := by
  refine codeAny_call_function hroom (X _ _ ho) rfl hco hgen rfl (codeRec_of X hcd) (hbind _ _ _ _ ?_)
  refine wpAny_newFunctionEnv_cells hk (kindsX hkind _) fun env he s₁ x => ?_
  subst he
  exact ⟨hlim.keeps x.toInCall.keep, codeAny_func (h s₁ x)⟩

/-- C(..): dict at size, instance at size + 1, then __init__ -/
theorem make_obj {R : Result → Shared → Prop} {C fI : Addr} {rest : List Value} {kw : List (Str × Value)}
    (X : K.In s.heap) (hm : makesIn K C = true) (hi : findIn K (.ref C) "__init__" = some (some (.ref fI))) (hf : isFn K (.ref fI) = true)
    (h : codeAny (model prog w) (A.under (.builtin "type.__call__" ⟨.ref C :: rest, kw⟩)) (.call (.ref fI) ⟨.ref (s.heap.objs.size + 1) :: rest, kw⟩) (InitBack (s.heap.objs.size + 1) R)
      { s with heap := (s.heap.push emptyDict).push (instObj C s.heap.objs.size) }) : codeAny (model prog w) A (.call (.ref C) ⟨rest, kw⟩) R s := by
  obtain ⟨hh, g, d, t, os⟩ := s
  exact make_core (makes_of X hm) (looks_findIn X hi) (fun self => bind_fn X self (beq_iff_eq.mp hf)) (.inl rfl) h

/-- x.name where the instance's dict holds the name and the class does not -/
theorem get_field {x C : Addr} {ox : Obj} {es : List DictEntry} {n : Nat} {name : Str} {expr : Bool} {v : Value} {Q : Value → Shared → Prop}
    (X : K.In s.heap) (I : PySem.W.InstAt s.heap x ox C (some (dictOf es n))) (hg : plainGet K C name = true) (hh : hasDictIn K C = true) (ha : findIn K (.ref C) name = some none)
    (hl : getL name es = some (some v)) (hv : handedIn v = true) (h : Q v { s with toks := s.toks + 1 }) : wpAny (model prog w) A (getAttr (.ref x) name expr) Q E s :=
  get_value X I (plainGet_of hg).1 (findObj_own hh ha rfl hl) hv h

/-- x.m(..): the method found in the class -/
theorem get_method {x C f : Addr} {ox : Obj} {es : List DictEntry} {n : Nat} {name : Str} {pl : Sem Bool} {Q : Value × List Value → Shared → Prop}
    (X : K.In s.heap) (I : PySem.W.InstAt s.heap x ox C (some (dictOf es n))) (hg : plainGet K C name = true) (hf : findIn K (.ref C) name = some (some (.ref f))) (ht : isFn K (.ref f) = true)
    (hl : getL name es = some none) (h : Q (.ref f, [.ref x]) s) : wpAny (model prog w) A (getMethod (.ref x) name pl) Q E s :=
  method_fn X I (plainGet_of hg).1 (plainGet_of hg).2 hf (beq_iff_eq.mp ht) (by show (lookIn name (dictOf es n)).map _ = _; rw [lookIn_dict, hl]; rfl) h

/-! the whole heap as the ledger: makes every rule that writes through a ledger a rule over any heap -/
def noObjs (h : Heap) : Heap := { h with objs := #[] }
theorem noObjs_get (h : Heap) (b : Addr) : (noObjs h).get? b = none := by
  cases e : (noObjs h).get? b with
  | none => rfl
  | some o => exact absurd (Heap.lt_size e) (Nat.not_lt_zero _)
def ledger (h : Heap) (L d : Addr) : List (Addr × Obj) := (List.range h.objs.size).filterMap fun a => if a = L ∨ a = d then none else (h.get? a).map fun o => (a, o)
theorem mem_ledger {h : Heap} {L d a : Addr} {o : Obj} : (a, o) ∈ ledger h L d ↔ a ≠ L ∧ a ≠ d ∧ h.get? a = some o := by
  unfold ledger
  rw [List.mem_filterMap]
  constructor
  · rintro ⟨b, _, e⟩
    split at e
    · cases e
    · rename_i hb
      obtain ⟨o', ho, e'⟩ := Option.map_eq_some_iff.mp e
      cases e'
      exact ⟨fun q => hb (.inl q), fun q => hb (.inr q), ho⟩
  · rintro ⟨n1, n2, ho⟩
    refine ⟨a, List.mem_range.mpr (Heap.lt_size ho), ?_⟩
    rw [if_neg (show ¬ (a = L ∨ a = d) from fun q => q.elim n1 n2), ho] <;> rfl
theorem news_ledger {h : Heap} {L d : Addr} {od : Obj} (hne : d ≠ L) (ho : h.get? d = some od) : News (noObjs h) L h ([] ++ (d, od) :: ledger h L d) := by
  rintro ⟨a, o⟩ hp
  rcases List.mem_cons.mp hp with e | hp
  · cases e
    exact ⟨ho, hne, noObjs_get _ _⟩
  · obtain ⟨n1, n2, e⟩ := mem_ledger.mp hp
    exact ⟨e, n1, noObjs_get _ _⟩
theorem fr_all {h : Heap} {L : Addr} {m : Str → Option Value} (n : h.Ns L m) : Fr (noObjs h) L h m :=
  ⟨n, fun b o e => (by rw [noObjs_get] at e; cases e), Nat.zero_le _⟩
/-- Upd of the head entry (for append_K, setItem_K ..) -/
theorem upd_ledger {h : Heap} {L d : Addr} {o o' : Obj} : Upd d o o' ((d, o) :: ledger h L d) ((d, o') :: ledger h L d) :=
  .head fun ⟨_, _⟩ hp => (mem_ledger.mp hp).2.1

/-- x.name = v over any heap: L is any namespace of the heap (the frame's, say): its map stays, its object is not told; all else but the dict stays -/
theorem set_field {x C dx L : Addr} {ox : Obj} {m : Str → Option Value} {es es' : List DictEntry} {n n' : Nat} {name : Str} {v : Value} {Q : Unit → Shared → Prop}
    (X : K.In s.heap) (I : PySem.W.InstAt s.heap x ox C (some (dictOf es n))) (hd : ox.dict = some dx) (hL : s.heap.Ns L m) (hne : dx ≠ L)
    (hs : findIn K (.ref C) "__setattr__" = some (some (.builtin "object.__setattr__"))) (hp : plainOver K C = true) (ht : takerIn K C name = some none) (hh : hasDictIn K C = true) (hl : (getL name es).isSome = true)
    (e : (putL name (PyData.keyHash w.params name) (.str name (s.toks + 1)) v es, putN name es n) = (es', n')) (hz : es'.length ≤ 1000)
    (h : ∀ h' : Heap, h'.Ns L m → h'.get? dx = some (dictOf es' n') → (∀ b o, b ≠ dx → b ≠ L → s.heap.get? b = some o → h'.get? b = some o) → Q () { s with heap := h', toks := s.toks + 2 }) :
    wpAny (model prog w) A (setAttr (.ref x) name v) Q E s := by
  obtain ⟨e1, e2⟩ := Prod.mk.inj e
  have hdx : s.heap.get? dx = some (dictOf es n) := by
    have := I.dict
    rw [hd] at this
    exact this
  refine set_plain X I hs (osa_dict (s := { s with toks := s.toks + 1 }) (h₀ := noObjs s.heap) (L := L) (m := m) (od := dictOf es n) (od' := dictOf es' n') (es := es') (n := n') (pre := []) (post := ledger s.heap L dx)
    (fr_all hL) (news_ledger hne hdx) X I hd hp ht hh hl (fun _ q => nomatch q) (fun ⟨_, _⟩ q => (mem_ledger.mp q).2.1) (by rw [putName_dict, e1, e2]) rfl hz fun h' F' N' => ?_)
  exact h h' F'.ns (N'.get (List.Mem.head _)) fun b o n1 n2 ho => N'.get (List.Mem.tail _ (mem_ledger.mpr ⟨n2, n1, ho⟩))
end
end Att

namespace L2
open PySem PySem.Spec PyProof.Rows

theorem vals_ints : ∀ {vs : List Value} {ns : List Int}, IntsAre vs ns → Vals (ns.map V.int) vs
  | _, _, .nil => .nil
  | _, _, .cons n t h => .cons ⟨t, rfl⟩ (vals_ints h)

/-- nothing is tracked but the script, known to the object (or it is an object of the module) -/
def Only (H : Hp) : Prop := ∀ b, H b = none ∨ ∃ o xs, H b = some (.frz o (.lst xs))

/-- THE HEAD: the law's promise, at the heap behind the top. F, the promise of the law's def, may use that base is part of the heap (so K.In base, base.Ns mainGlobals mg stand in Mod) -/
theorem law_call {P : Program} {w : World} {K : PySem.W.Frag} {mg mb : Str → Option Value} {CX : CXT} {k : Nat} {fa a : Addr} {fd : FuncData} {x : Str} {sp : Sp} {s₁ : Shared} {vs : List Value} {ns : List Int}
    (KX : K.In s₁.heap) (hns : s₁.heap.Ns mainGlobals mg) (hb : s₁.heap.Ns builtinsNs mb) (hbb : ∀ x : Str, x ≠ "__name__" → mb x = bootBuiltins x) (hlim : s₁.heap.NoLimit) (hg : s₁.gens = #[])
    (ha : s₁.heap.get? a = some { cls := .type "list", data := .seq vs.toArray }) (hi : IntsAre vs ns) (hl : ns.length ≤ sizeLine) (hr : Room k callerA)
    (F : ∀ base : Heap, K.In base → base.Ns mainGlobals mg → FnOk P w K mg base CX k fa fd [x] sp) (hbind : ∀ (s : Shared) (u : Value), BindsTo s fd ⟨[u], []⟩ [(x, u)])
    (hsp : ∀ H : Hp, Only H → SqL K H a (ns.map V.int) → sp [.ref a] H (fun v _ => v = .bl true) fun _ _ _ => False)
    (hCX : ∀ H e s', CX [] H s₁ (fun _ _ _ => False) e s' → False) :
    codeAny (model P w) callerA (.call (.ref fa) ⟨[.ref a], []⟩) (fun r s' => r = .ok (.ret (.bool true)) ∧ OldK s₁.heap s'.heap ∧ s'.os = s₁.os ∧ AllBare s'.gens) s₁ := by
  have rv := vals_ints hi
  have lenV := hi.length
  -- from an abstract heap in which nothing but the script may be tracked
  have core : ∀ H : Hp, Only H → SqL K H a (ns.map V.int) → HOk P w H s₁.heap → (∀ b, H b ≠ none → b = a) → (H a ≠ none → K.lookup a = none) →
      codeAny (model P w) callerA (.call (.ref fa) ⟨[.ref a], []⟩) (fun r s' => r = .ok (.ret (.bool true)) ∧ OldK s₁.heap s'.heap ∧ s'.os = s₁.os ∧ AllBare s'.gens) s₁ := by
    intro H hO hS hok hA hK
    have base_of : ∀ {b : Addr} {o : Obj}, s₁.heap.get? b = some o → H b = none → (hidT s₁.heap H).get? b = some o := fun e n => hidT_get e n
    have noA : ∀ {b : Addr} {o : Obj} {es : Array DictEntry} {ep : Nat}, s₁.heap.get? b = some o → o.data = .dict es ep → H b = none := fun {b o es ep} e d => by
      cases q : H b with
      | none => rfl
      | some u =>
        have e' : b = a := hA b (by rw [q]; simp)
        subst e'
        rw [ha] at e; cases e
        have d' : Data.seq vs.toArray _ = Data.dict es ep := d
        cases d'
    have nsK : ∀ {b : Addr} {m : Str → Option Value}, s₁.heap.Ns b m → (hidT s₁.heap H).Ns b m := fun {b m} ⟨o, es, ep, e, d, r⟩ => ⟨o, es, ep, base_of e (noA e d), d, r⟩
    have hKb : K.In (hidT s₁.heap H) := fun b o e => base_of (KX b o e) (by
      cases q : H b with
      | none => rfl
      | some u =>
        have e' : b = a := hA b (by rw [q]; simp)
        subst e'
        rw [hK (by rw [q]; simp)] at e; cases e)
    have hM : Mod K mg (hidT s₁.heap H) := ⟨hKb, nsK hns, ⟨mb, nsK hb, hbb⟩, let ⟨mc, h1, h2⟩ := hlim; ⟨mc, nsK h1, h2⟩⟩
    have e0 : Env0 P w K mg (hidT s₁.heap H) callerA [] s₁ H := ⟨rfl, hM, fun b o e => of_hidT e, Nat.le_of_eq (hidT_size _ _), trivial, fun b hb => absurd (show b ∈ ([] : List Addr) from hb) (by simp), hok, .of_eq hg⟩
    refine codeAny_mono ((F _ hKb (nsK hns)).run callerA [] s₁ H ⟨[.ref a], []⟩ [.ref a] [.ref a] _ _ hr e0 (hbind s₁ (.ref a)) (.cons rfl .nil) (hsp H hO hS)) fun r s' h => ?_
    cases r with
    | error e => exact (hCX H e s' h).elim
    | ok fl =>
      cases fl with
      | next => exact False.elim h
      | brk => exact False.elim h
      | cont => exact False.elim h
      | ret u =>
        obtain ⟨v, H', os, bare, un, hok', r', q⟩ := h
        have q' : v = .bl true := q
        subst q'
        obtain rfl : u = Value.bool true := r'
        refine ⟨rfl, OldK.of_keep fun b o e => ?_, os, bare⟩
        cases q : H b with
        | none => exact un.keep b o e q (by intro z; exact absurd (show b ∈ ([] : List Addr) from z) (by simp)) (by simp)
        | some u =>
          rcases hO b with z | ⟨ob, xs, z⟩
          · rw [q] at z; cases z
          · have z2 := un.frzs b ob _ z
            obtain ⟨e1, _⟩ := hok b _ z
            obtain ⟨e2, _⟩ := hok' b _ z2
            rw [e] at e1; cases e1
            exact e2
  cases hk : K.lookup a with
  | some o =>
    -- the script is one of the module's own objects
    have e := KX a o hk
    rw [ha] at e
    cases e
    refine core (fun _ => none) (fun _ => .inl rfl) (.inr ⟨_, vs.toArray, _, hk, rfl, rfl, rfl, by rw [List.size_toArray, lenV]; exact hl, by simpa using rv⟩) (fun b u z => by have z' : (none : Option HO) = some u := z; cases z') (fun b z => absurd rfl z) fun z => absurd rfl z
  | none =>
    refine core (fun b => if b = a then some (.frz { cls := .type "list", data := .seq vs.toArray } (.lst (ns.map V.int))) else none) (fun b => ?_) (.inl (.inr ⟨{ cls := .type "list", data := .seq vs.toArray }, if_pos rfl⟩)) (fun b u z => ?_) (fun b z => ?_) fun _ => hk
    · by_cases hb : b = a
      · exact .inr ⟨_, _, if_pos hb⟩
      · exact .inl (if_neg hb)
    · by_cases hb : b = a
      · have z' := (if_pos hb).symm.trans z
        cases z'
        subst hb
        exact ⟨ha, by rw [List.length_map]; exact hl, vs, _, rv, ha⟩
      · have z' := (if_neg hb).symm.trans z
        cases z'
    · by_cases hb : b = a
      · exact hb
      · exact absurd (if_neg hb) z
end L2

namespace L2
open PySem PySem.Spec PyProof.Rows

abbrev KOf {K : PySem.W.Frag} {h : Heap} (_ : K.In h) : PySem.W.Frag := K

/-- the goal that k_head leaves (case hc), from the law's promise. F gives the function object fd (K's own) once, then the promise over every base -/
theorem walk_of {l : PySem.W.OpenLaw} {n k : Nat} {q : Program} {loose : List Str} {XP : (Str → Option Value) → Heap → Prop} {YP : World → Heap → Prop} {d : DefRec} {K : Params → PySem.W.Frag} {CX : World → CXT} {sp : World → Sp} {x : Str}
    (hn : l.most = some n) (hn2 : n ≤ sizeLine) (hdf : d.params.defaults = []) (hr : Room k callerA)
    (hY : ∀ (w : World) (h : Heap), YP w h → (K w.params).In h)
    (F : ∀ (w : World) (mg : Str → Option Value) (fa : Addr) (h : Heap), (K w.params).In h → h.Ns mainGlobals mg → mg d.name = some (.ref fa) →
      ∃ fd : FuncData, (∀ (s : Shared) (u : Value), BindsTo s fd ⟨[u], []⟩ [(x, u)]) ∧
        ∀ base : Heap, (K w.params).In base → base.Ns mainGlobals mg → FnOk l.prog w (K w.params) mg base (CX w) k fa fd [x] (sp w))
    (hsp : ∀ (w : World) (H : Hp) (a : Addr) (ns : List Int), ns.length ≤ n → Only H → SqL (K w.params) H a (ns.map V.int) → sp w [.ref a] H (fun v _ => v = .bl true) fun _ _ _ => False)
    (hCX : ∀ (w : World) (H : Hp) (s : Shared) (e : Value) (s' : Shared), CX w [] H s (fun _ _ _ => False) e s' → False) :
    PySem.W.WalkO q loose XP YP l.row.toRowW d [] (fun f vs => PySem.call f vs) := by
  refine Att.attach_call hn hdf fun w s₀ s₁ mg mb fa o pm cd doc a vs ns G Y ho hd hcd hmg hobj hints hlen hg => ?_
  have KX := hY w _ Y
  obtain ⟨fd, hb, hF⟩ := F w mg fa _ KX G.T.g hmg
  exact law_call KX G.T.g G.T.b G.T.builtins G.T.nolimit hg hobj hints (Nat.le_trans hlen hn2) hr hF hb (fun H hO hS => hsp w H a ns hlen hO hS) fun H e s' => hCX w H s₁ e s'
/-- the same where the promise hangs on the written part alone: (sp := My.sp_law), no hole under a binder -/
theorem walk_ofK {l : PySem.W.OpenLaw} {n k : Nat} {q : Program} {loose : List Str} {XP : (Str → Option Value) → Heap → Prop} {YP : World → Heap → Prop} {d : DefRec} {K : Params → PySem.W.Frag} {CX : CXT} {sp : PySem.W.Frag → Sp} {x : Str}
    (hn : l.most = some n) (hn2 : n ≤ sizeLine) (hdf : d.params.defaults = []) (hr : Room k callerA)
    (hY : ∀ (w : World) (h : Heap), YP w h → (K w.params).In h)
    (F : ∀ (w : World) (mg : Str → Option Value) (fa : Addr) (h : Heap), (K w.params).In h → h.Ns mainGlobals mg → mg d.name = some (.ref fa) →
      ∃ fd : FuncData, (∀ (s : Shared) (u : Value), BindsTo s fd ⟨[u], []⟩ [(x, u)]) ∧
        ∀ base : Heap, (K w.params).In base → base.Ns mainGlobals mg → FnOk l.prog w (K w.params) mg base CX k fa fd [x] (sp (K w.params)))
    (hsp : ∀ (K : PySem.W.Frag) (H : Hp) (a : Addr) (ns : List Int), ns.length ≤ n → Only H → SqL K H a (ns.map V.int) → sp K [.ref a] H (fun v _ => v = .bl true) fun _ _ _ => False)
    (hCX : ∀ (H : Hp) (s : Shared) (e : Value) (s' : Shared), CX [] H s (fun _ _ _ => False) e s' → False) :
    PySem.W.WalkO q loose XP YP l.row.toRowW d [] (fun f vs => PySem.call f vs) :=
  walk_of (K := K) (CX := fun _ => CX) (sp := fun w => sp (K w.params)) hn hn2 hdf hr hY F (fun w H a ns h1 h2 h3 => hsp (K w.params) H a ns h1 h2 h3) fun _ H s e s' => hCX H s e s'
end L2

/- THE LAST THEOREM (shape; LID, My.* are yours):
   My.Adr: a structure of the addresses that your layer names (classes, functions); My.Txt K t: a structure (Prop) of the equations over K;
   My.txt_mk : {K} {implicit addresses ..} (e1 : nsIn K mainGlobals "law" = some (some (.ref f))) (e2 : K.lookup f = some ⟨oc, od, .func (fnOf "law" "law" params body scope dV kV doc pm an cdv ct), sl⟩) (e3 : codeIn K cdv "law" = true) .. : ∃ t, My.Txt K t

set_option maxRecDepth 100000 in
set_option maxHeartbeats 0 in
theorem PySem.Challenge.cw_LID_holds : PySem.Challenge.rw_LID.Holds := by
  w_on; o_law; k_head; (case hw => w_witness2)
  k_fill
  refine L2.walk_of (l := PySem.Challenge.rw_LID) (n := 63) (k := 40) (x := "script") (CX := fun w => ..) (sp := fun _ => My.sp_law) rfl (by decide) rfl ⟨rfl, by decide, by decide⟩ (fun w h Y => PySem.W.kIn_of Y) ?F ?S ?C
  case F =>
    intro w mg fa h KX G hmg
    have T : ∃ t, My.Txt (L2.KOf KX) t := by
      dsimp only [L2.KOf]                          -- K must stand as «<heap const> w.params» for k_is
      refine' My.txt_mk ?e1 ?e2 ?e3 ..
      (case e1 => PySem.W.k_is)                    -- in the order: a name -> its address -> its object -> its parts
      (case e2 => PySem.W.k_is)
      ..
    obtain ⟨t, T⟩ := T
    have e0 := hmg.symm.trans (PySem.W.mg_of KX G T.law)
    cases e0                                       -- fa is the law's own address
    exact ⟨_, fun s u => .of_eq rfl, fun base kb nb => My.law_fn T kb nb⟩     -- if «.of_eq rfl» comes too early: refine' ⟨_, ?b, fun base kb nb => My.law_fn T kb nb⟩; exact fun s u => .of_eq rfl
  case S => exact fun w H a ns hl hO hS => ..
  case C => exact ..
(the tactic k_is has no namespace: write k_is) -/

/-! SHORT WORDS over the layer: a def of the text, its body, what a loop and a test want. -/
namespace L2
open PySem PySem.Spec PyProof.Rows

/-! ### the text by places -/
/-- the j-th statement of a class's body -/
def inClass (s : Stmt) (j : Nat) : Stmt := match s with
  | .ClassDef _ _ _ body _ _ _ _ _ _ _ => body.getD j (.Pass ⟨0, 0, 0, 0⟩)
  | _ => .Pass ⟨0, 0, 0, 0⟩
def defArgs (s : Stmt) : Arguments := match s with
  | .FunctionDef _ a _ _ _ _ _ _ _ _ => a
  | _ => { posonlyargs := [], args := [], vararg := none, kwonlyargs := [], kw_defaults := [], kwarg := none, defaults := [] }
def defBody (s : Stmt) : List Stmt := match s with
  | .FunctionDef _ _ b _ _ _ _ _ _ _ => b
  | _ => []
def defScope (s : Stmt) : Scope := match s with
  | .FunctionDef _ _ _ _ _ _ sc _ _ _ => sc
  | _ => { kind := .function, names := [], isGenerator := false, isCoroutine := false }

/-! ### no exception leaves a def -/
abbrev CX0 : CXT := fun _ _ _ _ _ _ => False
abbrev E0 : XK := fun _ _ _ => False
theorem pass0 {X : Cx} : Passes CX0 X E0 := fun _ _ _ _ _ _ _ h => h.elim

/-! ### a def (or method) of the text as it stands behind the top -/
structure Fun (K : PySem.W.Frag) (x qual : Str) (st : Stmt) (f : Addr) (fd : FuncData) : Prop where
  ex : ∃ (oc : Value) (od : Option Addr) (kV doc pm : Value) (an : Option Addr) (cdv ct : Value) (osl : Array (Option Value)),
    fd = PySem.W.fnOf x qual (defArgs st) (defBody st) (defScope st) .none kV doc pm an cdv ct ∧ K.lookup f = some ⟨oc, od, .func fd, osl⟩ ∧ PySem.W.codeIn K cdv qual = true
  kp : PySem.W.keepIn K (.ref f) = true
section
variable {P : Program} {w : World} {K : PySem.W.Frag} {mg : Str → Option Value} {base : Heap}
/-- THE RULE for a def: its body as a term of rules, and the reading of that term -/
theorem Fun.ok {x qual : Str} {st : Stmt} {f : Addr} {fd : FuncData} {N ps : List Str} {k : Nat} {sp : Sp} (F : Fun K x qual st f fd) (S : FnScope N ps (defScope st)) (len : ∀ vs H Q E, sp vs H Q E → vs.length = ps.length)
    (hbody : ∀ (cdv : Value) (A : Around) (outer : List Env) (s : Shared) (H : Hp) (vs : List V) (Q : VK) (E : XK), Room k (A.deeper (envOfC qual (defScope st) s.heap.objs.size f cdv)) → sp vs H Q E →
      ∃ t, PSs (cxOf CX0 P w K mg base N qual (defScope st) f cdv A outer s H E).nox (defBody st) t ∧ t { nx := fun _ H' => Q .non H', rt := Q } (start N vs) H) : FnOk P w K mg base CX0 (k + 1) f fd ps sp := by
  obtain ⟨oc, od, kV, doc, pm, an, cdv, ct, osl, rfl, lk, hcd⟩ := F.ex
  refine fn_of lk hcd S len fun A outer s H vs Q E hr hsp => ?_
  obtain ⟨t, h, q⟩ := hbody cdv A outer s H vs Q E hr hsp
  exact ⟨t, h.nox, q⟩
/-- how its arguments bind (no defaults): h is «fun _ _ _ _ _ _ us hl => match us, hl with | [_, _], _ => rfl», one _ a parameter -/
theorem Fun.binds {x qual : Str} {st : Stmt} {f : Addr} {fd : FuncData} {ps : List Str} (F : Fun K x qual st f fd)
    (h : ∀ (kV doc pm : Value) (an : Option Addr) (cdv ct : Value) (us : List Value), us.length = ps.length → bindArgs (PySem.W.fnOf x qual (defArgs st) (defBody st) (defScope st) .none kV doc pm an cdv ct) ⟨us, []⟩ = pure (ps.zip us)) : Binds K fd ps [] := by
  obtain ⟨oc, od, kV, doc, pm, an, cdv, ct, osl, rfl, lk, hcd⟩ := F.ex
  exact .all (h kV doc pm an cdv ct)
theorem fun_mk {x qual : Str} {st : Stmt} {f : Addr} {oc : Value} {od an : Option Addr} {osl : Array (Option Value)} {kV doc pm cdv ct : Value} (l : K.lookup f = some ⟨oc, od, .func (PySem.W.fnOf x qual (defArgs st) (defBody st) (defScope st) .none kV doc pm an cdv ct), osl⟩)
    (c : PySem.W.codeIn K cdv qual = true) (k : PySem.W.keepIn K (.ref f) = true) : Fun K x qual st f (PySem.W.fnOf x qual (defArgs st) (defBody st) (defScope st) .none kV doc pm an cdv ct) := ⟨⟨oc, od, kV, doc, pm, an, cdv, ct, osl, rfl, l, c⟩, k⟩
end
theorem hu_of {A : Around} {k : Nat} (hr : Room k A) : A.units + 1 < cLine := Nat.lt_of_le_of_lt (Nat.add_le_add_left (by decide : 1 ≤ 64) _) hr.units
theorem small1000 {n : Nat} (h : n ≤ 1000) : n < sizeLine := Nat.lt_of_le_of_lt h (by decide)

/-! ### expressions in short: the name that stands in the i-th slot -/
section
variable {X : Cx}
theorem pv (i : Nat) {x : Str} {pos : Pos} (hN : X.N[i]? = some x := by rfl) (hv : Vis X.env.scope x := by first | exact Or.inl rfl | exact Or.inr (Or.inl rfl) | exact Or.inr (Or.inr rfl)) (hd : (x == ("__debug__" : Str)) = false := by decide)
    (hcd : (x == ("__classdict__" : Str)) = false := by decide) : PE X (.Name x pos) (tVar i) := pe_var hN hv hd hcd
end

/-! ### tests -/
theorem iteF {A B : Prop} (h : B) : if false = true then A else B := by
  rw [if_neg Bool.false_ne_true]
  exact h
theorem iteT {A B : Prop} (h : A) : if true = true then A else B := by
  rw [if_pos rfl]
  exact h
theorem ite2 {c A B : Prop} [Decidable c] (h1 : c → A) (h2 : ¬ c → B) : if c then A else B := by
  by_cases h : c
  · rw [if_pos h]
    exact h1 h
  · rw [if_neg h]
    exact h2 h
theorem iteNS {c A B : Prop} [Decidable c] (hc : c) (h : B) : if (!decide c) = true then A else B := by
  rw [decide_eq_true hc]
  exact iteF h

/-! ### heaps -/
/-- all that was tracked is as it was -/
def Same (H H' : Hp) : Prop := ∀ b o, H b = some o → H' b = some o
theorem Same.refl (H : Hp) : Same H H := fun _ _ h => h
theorem Same.trans {H H1 H2 : Hp} (a : Same H H1) (b : Same H1 H2) : Same H H2 := fun c o h => b c o (a c o h)
theorem Same.free {H H' : Hp} (e : Same H H') {l : Addr} (h : H' l = Option.none) : H l = Option.none := by
  cases q : H l with
  | none => rfl
  | some o =>
    rw [e l o q] at h
    cases h
theorem Same.seq {K : PySem.W.Frag} {H H' : Hp} {a : Addr} {xs : List V} (e : Same H H') (h : SqL K H a xs) : SqL K H' a xs := by
  rcases h with (h | ⟨o, h⟩) | h
  · exact .inl (.inl (e _ _ h))
  · exact .inl (.inr ⟨o, e _ _ h⟩)
  · exact .inr h

end L2

set_option Elab.async false
set_option linter.all false
set_option maxRecDepth 100000
set_option maxHeartbeats 4000000
/-! more rules over the layer: isinstance, str of a text, t + u of any tuples, tuples and lists of flat items compared, enumerate over a tuple -/
namespace L2
open PySem PySem.Spec PyProof.Rows
section
variable {X : Cx} {pins : List (Addr × Obj)} {σ : List (Option V)} {H : Hp} {s : Shared} {h' : Heap}
theorem Inv.turnedL {t' : Nat} {ch : List Addr} (I : Inv X pins σ H s) (k : ∀ b o, b ∉ ch → s.heap.get? b = some o → h'.get? b = some o) (hf : ∀ b ∈ ch, FpOk X pins H b) :
    Inv X pins σ H { s with heap := h', toks := t' } := by
  have nit : ∀ b u, H b = some u → b ∉ ch := fun b u e z => by rw [(hf b z).1] at e; cases e
  refine I.step (g' := s.gens) (d' := s.drawn) (ch := ch) (fun b hb => ?_) (fun b o _ _ hc e _ => k b o hc e) (fun b o _ _ hc e _ => ⟨o.slots, k b o hc e⟩) (fun _ _ _ _ n => n)
    (fun b o hc e => ⟨o, k b o hc e⟩) (fun _ _ e => e) (fun _ _ _ e => e) (fun b ps e => ⟨#[], by rw [e]; simp⟩) (fun m hm => ?_) (fun b u e => ?_) I.bare
  · obtain ⟨_, h1, _, h2, h3, h4⟩ := hf b hb
    exact ⟨h2, h1, h3, h4⟩
  · obtain ⟨o, es, ep, ho, r⟩ := hm
    exact ⟨o, es, ep, k _ o (fun z => (hf _ z).2.1 rfl) ho, r⟩
  · refine (I.hok b u e).stay (fun c v hc q => k c v ?_ q) (fun _ q => q) fun _ _ q => q
    rcases hc with z | z
    · rw [z]; exact nit b u e
    · exact nit c _ z
/-- an object that nobody tracked is tracked from here on -/
theorem Inv.track {T : Addr} {o : HO} (I : Inv X pins σ H s) (hf : FpOk X pins H T) (new : ObjOk X.prog X.w (upd H T o) s.heap T o) : Inv X pins σ (upd H T o) s := by
  obtain ⟨h0, h1, h5, h2, h3, h4⟩ := hf
  have nT : ∀ b u, H b = some u → b ≠ T := fun b u e z => by rw [z, h0] at e; cases e
  refine I.step (h' := s.heap) (g' := s.gens) (d' := s.drawn) (t' := s.toks) (ch := [T]) (fun b hb => ?_) (fun b o _ _ hc e _ => e) (fun b o _ _ hc e _ => ⟨o.slots, e⟩)
    (fun b o hc _ n => by rw [upd_ne (fun z => hc (by simp [z]))]; exact n)
    (fun b o hc e => ⟨o, e⟩) (fun b xs e => by rw [upd_ne (nT _ _ e)]; exact e) (fun b ob u e => by rw [upd_ne (nT _ _ e)]; exact e) (fun b ps e => ⟨#[], by rw [upd_ne (nT _ _ e), e]; simp⟩) (fun m hm => hm) (fun b u e => ?_) I.bare
  · have e : b = T := by simpa using hb
    subst e
    exact ⟨h2, h1, h3, h4⟩
  · by_cases hb : b = T
    · subst hb; rw [upd_same] at e; cases e; exact new
    · rw [upd_ne hb] at e
      exact (I.hok b u e).stay (fun c v _ q => q) (fun c q => by rw [upd_ne (nT _ _ q)]; exact q) fun c xs q => by rw [upd_ne (nT _ _ q)]; exact q
end

section
variable {X : Cx}
/-- isinstance(x, T), T a built-in type -/
theorem call_isinst : CallR X (.builtin "isinstance") (fun xs H Q => ∃ x t T b, xs = [x, .ty T] ∧ TyOf X.K H x t ∧ PySem.W.kitOne X.K t (.type T) = some b ∧ Q (.bl b) H) := by
  intro pins s σ H xs us Q I r h
  obtain ⟨x, t, T, b, rfl, ty, e, q⟩ := h
  obtain ⟨u, w', rfl, rx, ry⟩ := vals2 r
  cases (show w' = Value.type T from ry)
  exact isinst_ok I rx ty e fun tk => ⟨.bl b, H, I.tok _, rfl, q⟩
theorem call_str_str : CallR X (.type "str") (fun xs H Q => ∃ x, xs = [.str x] ∧ Q (.str x) H) := by
  intro pins s σ H xs us Q I r h
  obtain ⟨x, rfl, q⟩ := h
  obtain ⟨u, rfl, t, rfl⟩ := vals1 r
  exact PySem.P.str_of_str ⟨.str x, H, I, ⟨_, rfl⟩, q⟩
/-- t + u: an empty one gives the other itself -/
def rCatA (K : PySem.W.Frag) : R2 := fun x y H Q => ∃ a b xs ys, x = .ref a ∧ y = .ref b ∧ SqT K H a xs ∧ SqT K H b ys ∧ xs.length + ys.length ≤ sizeLine ∧
  (xs = [] → Q (.ref b) H) ∧ (xs ≠ [] → ys = [] → Q (.ref a) H) ∧ (xs ≠ [] → ys ≠ [] → ∀ p, H p = none → Q (.ref p) (upd H p (.tup (xs ++ ys))))
theorem op_catA : OpR X (binaryOp .Add) (rCatA X.K) := by
  intro pins s σ H x y v u Q I rx ry h
  obtain ⟨a, b, xs, ys, rfl, rfl, ha, hb, hz, q0, q1, q2⟩ := h
  cases rx
  cases ry
  by_cases hx : xs = []
  · obtain ⟨its, r1, p1, _⟩ := I.tuple ha
    obtain ⟨its2, r2, p2, _⟩ := I.tuple hb
    obtain ⟨⟨cls, dd, data, sl⟩, ho, hc, n, hd⟩ := id p1
    obtain ⟨⟨cls2, dd2, data2, sl2⟩, ho2, hc2, n2, hd2⟩ := id p2
    simp only at hc hd hc2 hd2
    subst hc hd hc2 hd2
    have hv : its = [] := r1.nil_iff.mpr hx
    exact concat_meets ⟨_, ho, rfl⟩ ⟨_, ho2, rfl⟩ noFill_tuple_add seq_tuple_add PySem.F.slot_tuple_add PySem.F.entry_tuple_add (PySem.F.args_tuple_add_2 _ _)
      (tuple_addW0 a b its.toArray its2.toArray n n2 dd dd2 sl sl2 (by simp [hv])) ⟨ho, ho2, ⟨.ref b, H, I, rfl, q0 hx⟩⟩
  · exact op_catT pins s σ H (.ref a) (.ref b) (.ref a) (.ref b) Q I rfl rfl ⟨a, b, xs, ys, rfl, rfl, ha, hb, hx, hz, q1 hx, q2 hx⟩
theorem eqV_refl : ∀ {x : V}, flatV x = true → eqV x x = true
  | .non, _ => by rfl
  | .bl b, _ => by simp [eqV]
  | .int i, _ => by simp [eqV]
  | .str z, _ => by simp [eqV]
  | .byt _, h => by first | exact absurd (show false = true from h) Bool.false_ne_true | simp [eqV]
  | .flt _, h => by first | exact absurd (show false = true from h) Bool.false_ne_true | simp [eqV]
  | .ref _, h => by first | exact absurd (show false = true from h) Bool.false_ne_true | simp [eqV]
  | .ty _, h => by first | exact absurd (show false = true from h) Bool.false_ne_true | simp [eqV]
theorem same_items {A : Around} {s : Shared} {xs : List V} {its its2 : List Value} (r1 : Vals xs its) (r2 : Vals xs its2) (hf : xs.all flatV = true) :
    ∀ j (h1 : j < its.toArray.size) (h2 : j < its2.toArray.size), SeqAt.EqAt A s its.toArray[j] its2.toArray[j] true := by
  intro j h1 h2
  have hl := r1.length
  have hj : j < xs.length := by simpa [hl] using h1
  have hx : xs[j]? = some xs[j] := by simp [hj]
  obtain ⟨u, hu, ru⟩ := r1.get hx
  obtain ⟨u2, hu2, ru2⟩ := r2.get hx
  have fx : flatV xs[j] = true := List.all_eq_true.mp hf _ (List.getElem_mem hj)
  have e1 : its.toArray[j] = u := by
    have : its[j]? = some its.toArray[j] := by simp at h1; simp [h1]
    rw [hu] at this; exact (Option.some.inj this).symm
  have e2 : its2.toArray[j] = u2 := by
    have : its2[j]? = some its2.toArray[j] := by simp at h2; simp [h2]
    rw [hu2] at this; exact (Option.some.inj this).symm
  rw [e1, e2]
  have := eqAt_V (A := A) (s := s) ru ru2 fx fx
  rw [eqV_refl fx] at this
  exact this
/-- t != u of two tuples with the same flat items -/
theorem op_neT_same (hu : X.A.units < cLine) : OpR X (compareOp .NotEq) (fun x y H Q => ∃ a b xs, x = .ref a ∧ y = .ref b ∧ SqT X.K H a xs ∧ SqT X.K H b xs ∧ xs.all flatV = true ∧ Q (.bl false) H) := by
  intro pins s σ H x y v u Q I rx ry h
  obtain ⟨a, b, xs, rfl, rfl, ha, hb, hf, q⟩ := h
  cases rx
  cases ry
  obtain ⟨its, r1, p1, _⟩ := I.tuple ha
  obtain ⟨its2, r2, p2, _⟩ := I.tuple hb
  have hl1 := r1.length
  have hl2 := r2.length
  refine SeqAt.RcNeAt.tuples (e := fun _ => true) (show s.heap.IsTuple a its.toArray from p1) (show s.heap.IsTuple b its2.toArray from p2) hu (same_items r1 r2 hf) X.prog X.w _ _ ?_
  have e : (!((List.range (min its.toArray.size its2.toArray.size)).all (fun _ => true) && its.toArray.size == its2.toArray.size)) = false := by
    have : its.toArray.size = its2.toArray.size := by simp; omega
    simp [this]
  rw [e]
  exact ⟨.bl false, H, I, rfl, q⟩
/-- t == u of two lists with the same flat items -/
theorem op_eqL_same (hu : X.A.units < cLine) : OpR X (compareOp .Eq) (fun x y H Q => ∃ a b xs, x = .ref a ∧ y = .ref b ∧ SqL X.K H a xs ∧ SqL X.K H b xs ∧ xs.all flatV = true ∧ Q (.bl true) H) := by
  intro pins s σ H x y v u Q I rx ry h
  obtain ⟨a, b, xs, rfl, rfl, ha, hb, hf, q⟩ := h
  cases rx
  cases ry
  obtain ⟨its, r1, p1, _⟩ := I.list ha
  obtain ⟨its2, r2, p2, _⟩ := I.list hb
  have hl1 := r1.length
  have hl2 := r2.length
  refine SeqAt.eq_listAt (e := fun _ => true) p1.isList p2.isList (by simp; omega) hu (same_items r1 r2 hf) ?_
  have e : ((List.range its.toArray.size).all (fun _ => true)) = true := by simp
  rw [e]
  exact ⟨.bl true, H, I, rfl, q⟩
end
end L2

namespace ET
open PySem PySem.Spec
open PySem.AutoSeq1 (wpAny_loadPart')
section
variable {prog : Program} {w : World} {A : Around} {E : Value → Shared → Prop} {s : Shared}
theorem nextOf_tuple_item {it l : Addr} {i : Nat} {items : Array Value} {x : Value} {Q : Value → Shared → Prop} (hit : s.heap.IsTupleIter it l i)
    (hl : s.heap.IsTuple l items) (hx : items[i]? = some x)
    (hQ : ∀ h', h'.IsTupleIter it l (i + 1) → Heap.SameBut it s.heap h' → Q x { s with heap := h' }) :
    wpAny (model prog w) A (Builtin.SmallTypes.nextOf (.ref it)) Q E s := by
  obtain ⟨o, ho, hc, hd⟩ := id hit
  obtain ⟨ol, hol, _, nl, hdl⟩ := hl
  unfold Builtin.SmallTypes.nextOf
  refine wpAny_bind (wpAny_callSpecial?_slot (name := Str.ofString "__next__") hit.typeIs F.slot_tuple_iterator_next
    (wpAny_call_entry F.slot_tuple_iterator_next hit.typeIs F.entry_tuple_iterator_next ?_ (F.args_tuple_iterator_next_1 _)))
  show wpAny _ _ (field (.ref it) 0 >>= _) _ _ s
  refine wpAny_bind (wpAny_field ho hd (x := .ref l) rfl ?_)
  show wpAny _ _ (if (Value.ref l == Value.none) = true then _ else _) _ _ s
  rw [if_neg (show ¬ ((Value.ref l == Value.none) = true) from Bool.false_ne_true)]
  show wpAny _ _ (field (.ref it) 1 >>= _) _ _ s
  refine wpAny_bind (wpAny_field ho hd (x := .int i 0) rfl ?_)
  show wpAny _ _ (seqItems? (.ref l) >>= _) _ _ s
  refine wpAny_bind (wpAny_seqItems hol hdl ?_)
  simp only [Int.toNat_natCast, hx]
  refine wpAny_bind (wpAny_setField ho hd (by simp) (wpAny_pure ⟨x, rfl, wpAny_pure (hQ _ ?_ (Heap.SameBut.update ..))⟩))
  exact ⟨_, Heap.get?_update_self _ ho (Obj.isFreed_of_fields (Obj.data_mapFields hd _)), (Obj.cls_mapFields ..).trans hc, by
    rw [Obj.data_mapFields hd]; simp [rawInt]⟩
theorem nextOf_tuple_end {it l : Addr} {i : Nat} {items : Array Value} {Q : Value → Shared → Prop} (hh : A.handled = none)
    (hit : s.heap.IsTupleIter it l i) (hl : s.heap.IsTuple l items) (hx : items[i]? = none)
    (hE : ∀ h' e, Heap.ExtBut it s.heap h' → (∃ o, h'.get? e = some o ∧ o.cls = .type "StopIteration") → E (.ref e) { s with heap := h' }) :
    wpAny (model prog w) A (Builtin.SmallTypes.nextOf (.ref it)) Q E s := by
  obtain ⟨o, ho, hc, hd⟩ := id hit
  obtain ⟨ol, hol, _, nl, hdl⟩ := hl
  unfold Builtin.SmallTypes.nextOf
  refine wpAny_bind (wpAny_callSpecial?_slot (name := Str.ofString "__next__") hit.typeIs F.slot_tuple_iterator_next
    (wpAny_call_entry F.slot_tuple_iterator_next hit.typeIs F.entry_tuple_iterator_next ?_ (F.args_tuple_iterator_next_1 _)))
  show wpAny _ _ (field (.ref it) 0 >>= _) _ _ s
  refine wpAny_bind (wpAny_field ho hd (x := .ref l) rfl ?_)
  show wpAny _ _ (if (Value.ref l == Value.none) = true then _ else _) _ _ s
  rw [if_neg (show ¬ ((Value.ref l == Value.none) = true) from Bool.false_ne_true)]
  show wpAny _ _ (field (.ref it) 1 >>= _) _ _ s
  refine wpAny_bind (wpAny_field ho hd (x := .int i 0) rfl ?_)
  show wpAny _ _ (seqItems? (.ref l) >>= _) _ _ s
  refine wpAny_bind (wpAny_seqItems hol hdl ?_)
  simp only [Int.toNat_natCast, hx]
  refine wpAny_bind (wpAny_rule (wpAny_bind (wpAny_setField ho hd (by simp) ?_)))
  show wpAny _ _ (newExc (.type "StopIteration") [] >>= _) _ _ _
  refine wpAny_bind ?_
  simp only [newExc, newTuple]
  refine wpAny_bind (wpAny_newObj_type ?_ (by size_fits))
  refine wpAny_bind (m := firstArgMember _ _) (wpAny_of_eq (a := Value.none) (by first | rfl | (simp only [firstArgMember]; rfl)) ?_)
  refine wpAny_newObj_type ?_ (by size_fits)
  simp only [raiseNew]
  refine wpAny_bind (wpAny_handled ?_)
  first | rw [show A.in1.handled = none from hh] | rw [hh]
  refine wpAny_bind (wpAny_pure (wpAny_throw ?_))
  exact hE _ _ (((Heap.SameBut.update ..).extBut.push _).push _) ⟨_, Heap.get?_push_size _ rfl, rfl⟩
end
theorem draws_tuple {prog : Program} {w : World} {A : Around} (hh : A.handled = none) (it l : Addr) (hne : l ≠ it) (items : Array Value) :
    Draws prog w A it [it, l] items.size (fun i v => items[i]? = some v) (fun i h => h.IsTupleIter it l i ∧ h.IsTuple l items) where
  live := fun _ _ st => let ⟨o, ho, _⟩ := st.1; ⟨o, ho⟩
  frame := fun _ _ _ st hk => ⟨let ⟨o, ho, r⟩ := st.1; ⟨o, hk it (by simp) o ho, r⟩, let ⟨o, ho, r⟩ := st.2; ⟨o, hk l (by simp) o ho, r⟩⟩
  item := fun i s Q E hi st hQ => by
    refine nextOf_tuple_item st.1 st.2 (x := items[i]) (by simp [hi]) fun h' hit' hs' => ?_
    exact hQ _ h' s.toks (by simp [hi]) ⟨hit', st.2.extBut hs'.extBut hne⟩ hs'
  done := fun s Q E st hE => nextOf_tuple_end hh st.1 st.2 (by simp) hE
theorem meets_enumerate_newT (l : Addr) (items : Array Value) (n : Nat) (dct : Option Addr) (sl : Array (Option Value)) :
    Meets (Builtin.«enumerate.__new__» ⟨[.type "enumerate", .ref l], []⟩) (fun _ R s => s.heap.get? l = some { cls := .type "tuple", dict := dct, data := .seq items n, slots := sl } ∧
      R (.ok (.ret (.ref (s.heap.push { cls := .type "tuple_iterator", data := .fields #[.ref l, .int 0 0] }).objs.size)))
        { s with heap := (s.heap.push { cls := .type "tuple_iterator", data := .fields #[.ref l, .int 0 0] }).push { cls := .type "enumerate", data := .fields #[.none, .bool false, .ref s.heap.objs.size, rawInt 0, .none, .none] } }) :=
  .of_wp fun prog w A R s h => by
    obtain ⟨hp, g, d, tk, os⟩ := s; obtain ⟨hl, h⟩ := h
    have hsub := sub_enumerate
    have hL : Heap.IsTuple (Shared.heap ⟨hp, g, d, tk, os⟩) l items := ⟨_, hl, rfl, n, rfl⟩
    wp_walk using wpAny_loadPart' hl
    refine wpAny_stack_any fun st => wpAny_pure ?_
    split
    · rename_i c _ _ _ _ _
      cases (c == Value.type "enumerate")
      · wp_walk using wpAny_loadPart' hl, wpAny_pyIter_tuple hL
        exact ⟨_, rfl, h⟩
      · wp_walk using wpAny_loadPart' hl, wpAny_pyIter_tuple hL
        exact ⟨_, rfl, h⟩
    · wp_walk using wpAny_loadPart' hl, wpAny_pyIter_tuple hL
      exact ⟨_, rfl, h⟩
theorem call_enumerate_tuple {prog : Program} {w : World} {A : Around} {E : Value → Shared → Prop} {s : Shared} {l : Addr} {items : Array Value} {Q : Value → Shared → Prop} (hL : s.heap.IsTuple l items)
    (h : ∀ h', IsEnum h' (s.heap.objs.size + 1) s.heap.objs.size 0 .none → h'.IsTupleIter s.heap.objs.size l 0 → h'.objs.size = s.heap.objs.size + 2 →
      (∀ b o, s.heap.get? b = some o → h'.get? b = some o) → Q (.ref (s.heap.objs.size + 1)) { s with heap := h' }) :
    wpAny (model prog w) A (call (.type "enumerate") [.ref l]) Q E s := by
  obtain ⟨⟨c, dct, dt, sl⟩, hl, hc, n, hd⟩ := hL
  replace hc : c = .type "tuple" := hc
  replace hd : dt = .seq items n := hd
  subst hc hd
  refine callType_new F.called_enumerate (by decide) (F.typeCall_enumerate_1 _) (F.newCall_enumerate_1 _) (fun obj => F.args_object_init_2 obj _) F.entry_enumerate_new
    (meets_enumerate_newT l items n dct sl) ⟨hl, ?_⟩
  have hz : (s.heap.push { cls := .type "tuple_iterator", data := .fields #[.ref l, .int 0 0] }).objs.size = s.heap.objs.size + 1 := Heap.size_push ..
  show _ ∧ _
  rw [hz]
  have he : IsEnum ((s.heap.push { cls := .type "tuple_iterator", data := .fields #[.ref l, .int 0 0] }).push
      { cls := .type "enumerate", data := .fields #[.none, .bool false, .ref s.heap.objs.size, rawInt 0, .none, .none] }) (s.heap.objs.size + 1) s.heap.objs.size 0 .none := by
    have := Heap.get?_push_size (s.heap.push { cls := .type "tuple_iterator", data := .fields #[.ref l, .int 0 0] })
      (o := { cls := .type "enumerate", data := .fields #[.none, .bool false, .ref s.heap.objs.size, rawInt 0, .none, .none] }) rfl
    rw [hz] at this; exact this
  refine ⟨⟨_, he, rfl⟩, h _ he ⟨_, Heap.get?_push_of_some _ (Heap.get?_push_size _ rfl), rfl, rfl⟩ (by rw [Heap.size_push, hz]) fun b o x => Heap.get?_push_of_some _ (Heap.get?_push_of_some _ x)⟩
end ET

namespace L2
open PySem PySem.Spec PyProof.Rows
/-- enumerate over the tuple at a: a new pair each turn -/
def Ite (K : PySem.W.Frag) (a : Addr) : It :=
  ⟨fun i H => ∃ xs x, SqT K H a xs ∧ xs[i]? = some x,
   fun i H x H' => ∃ p v, (∀ xs, SqT K H a xs → xs[i]? = some v) ∧ H p = none ∧ x = .ref p ∧ H' = upd H p (.tup [.int i, v]),
   fun i H => ∃ xs, SqT K H a xs ∧ xs.length = i⟩
theorem turn_enumT {P : Program} {w : World} {K : PySem.W.Frag} {elts : List Expr} {k : Nat} {pos : Pos} (a e it : Addr) (hei : e ≠ it) :
    Turn P w K (.Tuple elts k pos) (Ite K a) [e, it] e (fun i h => (∃ old, IsEnum h e it i old) ∧ h.IsTupleIter it a i) where
  mem := by simp
  obj := fun i h st b hb => by
    obtain ⟨⟨old, he⟩, o, ho, hc, hd⟩ := st
    rcases List.mem_cons.mp hb with z | hb
    · subst z
      exact ⟨_, he, fun v z => by
        have z' : Data.fields _ = Data.cell v := z
        cases z'⟩
    · obtain z := List.mem_singleton.mp hb
      subst z
      exact ⟨o, ho, fun v z => by rw [hd] at z; cases z⟩
  keep := fun i h h' st kk => by
    obtain ⟨⟨old, he⟩, o, ho, r⟩ := st
    exact ⟨⟨old, kk e (by simp) _ he⟩, o, kk it (by simp) o ho, r⟩
  item := by
    intro X hP hw hK hc i pins s σ H E I hf st hg
    subst hP hw hK
    obtain ⟨xs, x, hq, hx⟩ := hg
    obtain ⟨its, rv, p, hz⟩ := I.tuple hq
    obtain ⟨u, hu, ru⟩ := rv.get hx
    obtain ⟨⟨old, he⟩, hit⟩ := st
    have ht : s.heap.IsTuple a its.toArray := p
    have hai : a ≠ it := by
      intro z
      obtain ⟨o, ho, hc1, _⟩ := id hit
      obtain ⟨o2, ho2, hc2, _⟩ := id ht
      rw [z, ho] at ho2
      cases ho2
      rw [hc1] at hc2
      exact absurd hc2 (by decide)
    have hae : a ≠ e := by
      intro z
      obtain ⟨o2, ho2, hc2, _⟩ := id ht
      have he' := he
      unfold IsEnum at he'
      rw [z, he'] at ho2
      cases ho2
      exact absurd (show Value.type "enumerate" = Value.type "tuple" from hc2) (by decide)
    have D := ET.draws_tuple (prog := X.prog) (w := X.w) (A := X.A.in1) (show X.A.in1.handled = none from I.ok.hd hc) it a hai its.toArray
    have hef : e ∉ [it, a] := by
      intro z
      rcases List.mem_cons.mp z with z | z
      · exact hei z
      · exact hae (List.mem_singleton.mp z).symm
    have W := WalksT.enumerateD D e hei hef (by simp)
    have hlt : i < its.toArray.size := by
      have h1 := (List.getElem?_eq_some_iff.mp hu).1
      simpa using h1
    refine W.item i s _ _ hlt ⟨⟨old, he⟩, hit, ht⟩ fun T vals h' tk hP hT hTup hM hk => ?_
    obtain ⟨t, y, hy, rfl⟩ := hP
    have ey : y = u := by
      have : its[i]? = some y := by simpa using hy
      rw [hu] at this
      exact (Option.some.inj this).symm
    subst ey
    have I1 : Inv X pins σ H { s with heap := h', toks := tk } := I.turnedL (ch := [e, it]) hk hf
    have hHT : H T = none := I.hok.fresh hT
    have fT : FpOk X pins H T := I.fpOk hT hHT
    refine ⟨_, rfl, ?_⟩
    refine W.go elts k pos i T { s with heap := h', toks := tk } _ _ hM fun h2 st2 hk2 => ?_
    have I2' := I1.turnedL (h' := h2) (t' := tk) (ch := [e, it]) hk2 hf
    have I2 : Inv X pins σ H { s with heap := h2, toks := tk } := I2'
    have hT2 : h2.IsTuple T #[.int i t, y] := by
      obtain ⟨o, ho, r⟩ := hTup
      exact ⟨o, hk2 T o (W.apart i T h' hM) ho, r⟩
    have I3 : Inv X pins σ (upd H T (.tup [.int i, x])) { s with heap := h2, toks := tk } :=
      I2.track fT ⟨by show 2 ≤ sizeLine; decide, [.int i t, y], .cons ⟨t, rfl⟩ (.cons ru .nil), hT2⟩
    refine ⟨.ref T, _, I3, rfl, ⟨T, x, fun ys hy' => by rw [I.tuple_inj hy' hq]; exact hx, hHT, rfl, rfl⟩, ⟨by simpa using st2.1, st2.2.1⟩, fun b hb => ?_⟩
    rw [upd_ne (fun z => W.apart i T h' hM (by rw [← z]; exact hb))]
    exact (hf b hb).1
  done := by
    intro X hP hw hK hc i pins s σ H E I hf st hg
    subst hP hw hK
    obtain ⟨xs, hq, hx⟩ := hg
    obtain ⟨its, rv, p, hz⟩ := I.tuple hq
    obtain ⟨⟨old, he⟩, hit⟩ := st
    have ht : s.heap.IsTuple a its.toArray := p
    have hai : a ≠ it := by
      intro z
      obtain ⟨o, ho, hc1, _⟩ := id hit
      obtain ⟨o2, ho2, hc2, _⟩ := id ht
      rw [z, ho] at ho2
      cases ho2
      rw [hc1] at hc2
      exact absurd hc2 (by decide)
    have hae : a ≠ e := by
      intro z
      obtain ⟨o2, ho2, hc2, _⟩ := id ht
      have he' := he
      unfold IsEnum at he'
      rw [z, he'] at ho2
      cases ho2
      exact absurd (show Value.type "enumerate" = Value.type "tuple" from hc2) (by decide)
    have D := ET.draws_tuple (prog := X.prog) (w := X.w) (A := X.A.in1) (show X.A.in1.handled = none from I.ok.hd hc) it a hai its.toArray
    have hef : e ∉ [it, a] := by
      intro z
      rcases List.mem_cons.mp z with z | z
      · exact hei z
      · exact hae (List.mem_singleton.mp z).symm
    have W := WalksT.enumerateD D e hei hef (by simp)
    have hl := rv.length
    have hn : i = its.toArray.size := by simp; omega
    refine W.done s _ _ ⟨⟨old, by rw [← hn]; exact he⟩, by rw [← hn]; exact hit, ht⟩ fun h' tk hk => ⟨rfl, ?_⟩
    exact I.turnedL (ch := [e, it]) hk hf
  self := fun _ _ _ _ _ st h => by
    obtain ⟨⟨old, he⟩, _⟩ := st
    exact wpAny_pyIter_enum he h
section
variable {X : Cx} {elts : List Expr} {k : Nat} {tpos : Pos}
def iEnum (K : PySem.W.Frag) (ta : TA) : TI := fun σ H R => ta σ H fun vs H1 => ∃ a, vs = [.ref a] ∧ (∃ xs, SqT K H1 a xs) ∧ R (Ite K a) H1
theorem pi_enumT {a : Expr} {ta : TA} {p pos : Pos} (hg : Gl X "enumerate") (hm : X.mg "enumerate" = none) (ha : PA X [a] ta) (hs : starEach [a] X.env = [(false, eval a X.env)] := by rfl) :
    PI X (.Tuple elts k tpos) (.Call (.Name "enumerate" p) [a] [] pos) (iEnum X.K ta) := by
  intro pins s σ H R I h
  refine Call_ (ld_blt I hg hm boot_enumerate (PyProof.Rows.callWith_type1 (thn (ha pos pins s σ H _ I h) fun us s1 ⟨vs, H1, I1, r1, q1⟩ => ?_) hs rfl))
  obtain ⟨a, e, ⟨xs, hq⟩, q⟩ := q1
  subst e
  cases r1 with
  | cons r rr =>
    cases rr
    cases r
    obtain ⟨its, rv, p, hz⟩ := I1.tuple hq
    refine ET.call_enumerate_tuple (show s1.heap.IsTuple a its.toArray from p) fun h' he hit hsz hk => ?_
    have I2 : Inv X pins σ H1 { s1 with heap := h' } := I1.kept (t' := s1.toks) hk
    refine wpAny_pyIter_enum he ?_
    refine ⟨s1.heap.objs.size + 1, [s1.heap.objs.size + 1, s1.heap.objs.size], _, _, H1, rfl, I2, turn_enumT a (s1.heap.objs.size + 1) s1.heap.objs.size (Nat.succ_ne_self _), ⟨⟨_, he⟩, hit⟩, fun b hb => ?_, q⟩
    have hb' : s1.heap.objs.size ≤ b := by
      rcases List.mem_cons.mp hb with z | z
      · rw [z]; exact Nat.le_succ _
      · rw [List.mem_singleton.mp z]; exact Nat.le_refl _
    exact I1.fpOk hb' (I1.hok.fresh hb')
end
theorem for_enum {K : PySem.W.Frag} {a : Addr} {xs : List V} {g : TG} {tb : TS} {D : Ends} {σ : St} {H : Hp} (Pv : Nat → St → Hp → Prop) (h0 : Pv 0 σ H) (hl : ∀ i σ H, i ≤ xs.length → Pv i σ H → SqT K H a xs)
    (hs : ∀ i x p σ H, xs[i]? = some x → Pv i σ H → H p = none → g (.ref p) σ (upd H p (.tup [.int i, x])) fun σ2 H2 => tb { D with nx := Pv (i + 1), ct := Pv (i + 1), bk := D.nx } σ2 H2) (hd : ∀ σ H, Pv xs.length σ H → D.nx σ H) :
    ∃ W : Nat → Nat → St → Hp → Prop, (∃ m, W 0 m σ H) ∧ ∀ i m σ H, W i m σ H →
      ((Ite K a).stop i H ∧ D.nx σ H) ∨ ((Ite K a).go i H ∧ ∃ N : St → Hp → Prop, (∀ σ' H', N σ' H' → ∃ m', m' < m ∧ W (i + 1) m' σ' H') ∧ ∀ x H', (Ite K a).yld i H x H' → g x σ H' fun σ2 H2 => tb { D with nx := N, ct := N, bk := D.nx } σ2 H2) := by
  refine ⟨fun i m σ H => m = xs.length - i ∧ i ≤ xs.length ∧ Pv i σ H, ⟨xs.length, by simp, Nat.zero_le _, h0⟩, ?_⟩
  rintro i m σ H ⟨rfl, hi, p⟩
  have q := hl i σ H hi p
  by_cases hlt : i < xs.length
  · refine .inr ⟨⟨xs, xs[i], q, by simp [hlt]⟩, Pv (i + 1), fun σ' H' p' => ⟨xs.length - (i + 1), by omega, rfl, hlt, p'⟩, fun x H' y => ?_⟩
    obtain ⟨pp, v, y, hn, e1, e2⟩ := y
    subst e1 e2
    exact hs i v pp σ _ (y xs q) p hn
  · have e : i = xs.length := by omega
    subst e
    exact .inl ⟨⟨xs, q, rfl⟩, hd σ H p⟩
end L2

set_option Elab.async false
set_option linter.all false
set_option maxRecDepth 100000
set_option maxHeartbeats 4000000
namespace L2
open PySem PySem.Spec PyProof.Rows
/-! ### a def of the text with its promise, ready to be called -/
structure Cl (P : Program) (w : World) (K : PySem.W.Frag) (mg : Str → Option Value) (base : Heap) (k : Nat) (x : Str) (ps : List Str) (sp : Sp) : Prop where
  ex : ∃ f fd, FnOk P w K mg base CX0 k f fd ps sp ∧ mg x = some (.ref f) ∧ PySem.W.keepIn K (.ref f) = true ∧ Binds K fd ps []
theorem pe_fn {X : Cx} {j k : Nat} {x : Str} {ps : List Str} {sp : Sp} {e : Expr} {es : List Expr} {t : TA} {p pos : Pos} (C : Cl X.prog X.w X.K X.mg X.base j x ps sp) (hr : Room k X.A) (hg : Gl X x) (ha : PA X (e :: es) t) (hjk : j ≤ k := by decide)
    (hdb : (x == ("__debug__" : Str)) = false := by decide) (he : starEach (e :: es) X.env = (false, eval e X.env) :: starEach es X.env := by rfl) (hpl : (backTo pos (starEach es X.env)).any (·.1) = false := by rfl) :
    PE X (.Call (.Name x p) (e :: es) [] pos) (tCall sp [] E0 t) := by
  obtain ⟨f, fd, F, hm, hk, hb⟩ := C.ex
  exact pe_call F (hr.mono hjk) hg hm hk hb .nil pass0 ha hdb he hpl
def HasDef (K : PySem.W.Frag) (mg : Str → Option Value) (x : Str) (st : Stmt) : Prop := ∃ f fd, Fun K x x st f fd ∧ mg x = some (.ref f)
theorem hasDef_mk {K : PySem.W.Frag} {mg : Str → Option Value} {h : Heap} {x : Str} {st : Stmt} {f : Addr} {oc : Value} {od an : Option Addr} {osl : Array (Option Value)} {kV doc pm cdv ct : Value} (X : K.In h) (G : h.Ns mainGlobals mg)
    (a : PySem.W.nsIn K mainGlobals x = some (some (.ref f))) (l : K.lookup f = some ⟨oc, od, .func (PySem.W.fnOf x x (defArgs st) (defBody st) (defScope st) .none kV doc pm an cdv ct), osl⟩)
    (c : PySem.W.codeIn K cdv x = true) (k : PySem.W.keepIn K (.ref f) = true) : HasDef K mg x st :=
  ⟨f, _, fun_mk l c k, PySem.W.mg_of X G a⟩
theorem Cl.of {P : Program} {w : World} {K : PySem.W.Frag} {mg : Str → Option Value} {base : Heap} {x : Str} {st : Stmt} {N ps : List Str} {k : Nat} {sp : Sp} (T : HasDef K mg x st) (S : FnScope N ps (defScope st)) (len : ∀ vs H Q E, sp vs H Q E → vs.length = ps.length)
    (hb : ∀ (kV doc pm : Value) (an : Option Addr) (cdv ct : Value) (us : List Value), us.length = ps.length → bindArgs (PySem.W.fnOf x x (defArgs st) (defBody st) (defScope st) .none kV doc pm an cdv ct) ⟨us, []⟩ = pure (ps.zip us))
    (hbody : ∀ (f : Addr) (cdv : Value) (A : Around) (outer : List Env) (s : Shared) (H : Hp) (vs : List V) (Q : VK) (E : XK), Room k (A.deeper (envOfC x (defScope st) s.heap.objs.size f cdv)) → sp vs H Q E →
      ∃ t, PSs (cxOf CX0 P w K mg base N x (defScope st) f cdv A outer s H E).nox (defBody st) t ∧ t { nx := fun _ H' => Q .non H', rt := Q } (start N vs) H) : Cl P w K mg base (k + 1) x ps sp := by
  obtain ⟨f, fd, F, m⟩ := T
  exact ⟨f, fd, F.ok S len (fun cdv A outer s H vs Q E => hbody f cdv A outer s H vs Q E), m, F.kp, F.binds hb⟩

/-! ### heaps that grow -/
def Tups (H H' : Hp) : Prop := ∀ b xs, H b = some (.tup xs) → H' b = some (.tup xs)
section
variable {H H1 H2 : Hp} {l p : Addr} {o : HO} {xs ys : List V}
theorem Same.tups (e : Same H H1) : Tups H H1 := fun b xs q => e b _ q
theorem Tups.refl (H : Hp) : Tups H H := fun _ _ q => q
theorem Tups.trans (a : Tups H H1) (b : Tups H1 H2) : Tups H H2 := fun c xs q => b c xs (a c xs q)
theorem Tups.lst (h : H l = some (.lst xs)) : Tups H (upd H l (.lst ys)) := fun b zs q => by
  rw [upd_ne (ne_of q h (by intro z; cases z))]; exact q
theorem Tups.new (h : H p = none) : Tups H (upd H p o) := fun b zs q => by
  rw [upd_ne (ne_of_none q h)]; exact q
theorem Same.put (s : Same H H1) (h : H l = none) : Same H (upd H1 l o) := fun b u q => by
  rw [upd_ne (ne_of_none q h)]; exact s b u q
theorem Same.new (s : Same H H1) (h : H1 p = none) : Same H (upd H1 p o) := s.put (s.free h)
theorem upd_keep {u : HO} (h : H l = some u) (hp : H p = none) : upd H p o l = some u := by
  rw [upd_ne (ne_of_none h hp)]; exact h
end

/-! ### places -/
theorem atI_getD {α : Type} (xs : List α) (d : α) {i : Int} (h0 : 0 ≤ i) (h1 : i < (xs.length : Int)) : atI xs i = some (xs.getD i.toNat d) := by
  have e : i = ((i.toNat : Nat) : Int) := by omega
  have hl : i.toNat < xs.length := by omega
  have hx : xs[i.toNat]? = some (xs.getD i.toNat d) := by
    rw [List.getD_eq_getElem?_getD]
    simp [hl]
  have := atI_nat hx
  rw [← e] at this
  exact this
theorem atI_mem {α : Type} (xs : List α) {i : Int} (h0 : 0 ≤ i) (h1 : i < (xs.length : Int)) : ∃ v, v ∈ xs ∧ atI xs i = some v := by
  have e : i = ((i.toNat : Nat) : Int) := by omega
  have hl : i.toNat < xs.length := by omega
  have hx : xs[i.toNat]? = some xs[i.toNat] := by simp [hl]
  refine ⟨xs[i.toNat], List.getElem_mem hl, ?_⟩
  have := atI_nat hx
  rw [← e] at this
  exact this
/-- the menu's text at a place -/
theorem atI_menu (ys : List Str) {i : Int} (h0 : 0 ≤ i) (h1 : i < (ys.length : Int)) : ∃ y, y ∈ ys ∧ atI (ys.map V.str) i = some (.str y) := by
  obtain ⟨v, hv, e⟩ := atI_mem (ys.map V.str) h0 (by simpa using h1)
  obtain ⟨y, hy, rfl⟩ := List.mem_map.mp hv
  exact ⟨y, hy, e⟩
theorem atI_map {α : Type} (f : α → V) (xs : List α) (d : α) {i : Int} (h0 : 0 ≤ i) (h1 : i < (xs.length : Int)) : atI (xs.map f) i = some (f (xs.getD i.toNat d)) := by
  have := atI_getD (xs.map f) (f d) h0 (by simpa using h1)
  rw [this, List.getD_eq_getElem?_getD, List.getElem?_map, List.getD_eq_getElem?_getD]
  have hl : i.toNat < xs.length := by omega
  simp [hl]

/-! ### tests of texts -/
theorem iteSE {x : Str} {A B : Prop} (h : A) : if decide (V.str x = V.str x) = true then A else B := by
  rw [if_pos (decide_eq_true rfl)]; exact h
theorem iteSN {x y : Str} {A B : Prop} (e : ¬ x = y) (h : B) : if decide (V.str x = V.str y) = true then A else B := by
  rw [if_neg (by rw [decide_eq_false (fun q => e (V.str.inj q))]; exact Bool.false_ne_true)]; exact h
theorem iteIE {i : Int} {A B : Prop} (h : A) : if decide (V.int i = V.int i) = true then A else B := by
  rw [if_pos (decide_eq_true rfl)]; exact h
theorem iteIN {i j : Int} {A B : Prop} (e : ¬ i = j) (h : B) : if decide (V.int i = V.int j) = true then A else B := by
  rw [if_neg (by rw [decide_eq_false (fun q => e (V.int.inj q))]; exact Bool.false_ne_true)]; exact h
theorem ite2I {i j : Int} {A B : Prop} (h1 : i = j → A) (h2 : ¬ i = j → B) : if decide (V.int i = V.int j) = true then A else B :=
  ite2 (fun h => h1 (V.int.inj (of_decide_eq_true h))) fun h => h2 fun e => h (decide_eq_true (congrArg V.int e))
theorem iteDP {p : Prop} [Decidable p] {A B : Prop} (hp : p) (h : A) : if decide p = true then A else B := by
  rw [if_pos (decide_eq_true hp)]; exact h
theorem iteDN {p : Prop} [Decidable p] {A B : Prop} (hp : ¬ p) (h : B) : if decide p = true then A else B := by
  rw [if_neg (by rw [decide_eq_false hp]; exact Bool.false_ne_true)]; exact h
theorem neIF {i : Int} {A B : Prop} (h : B) : if (!decide (V.int i = V.int i)) = true then A else B := iteNS rfl h

/-! ### isinstance of built-in types -/
theorem kit_same (K : PySem.W.Frag) (T : String) : PySem.W.kitOne K (.type T) (.type T) = some true := by
  unfold PySem.W.kitOne
  rw [if_pos (by simp)]
theorem kit_int_str (K : PySem.W.Frag) : PySem.W.kitOne K (.type "int") (.type "str") = some false := by kernel_rfl
theorem kit_int_bool (K : PySem.W.Frag) : PySem.W.kitOne K (.type "int") (.type "bool") = some false := by kernel_rfl

/-! ### names -/
def isLet (c : Nat) : Bool := decide (97 ≤ c) && decide (c ≤ 122)
def isFig (c : Nat) : Bool := decide (48 ≤ c) && decide (c ≤ 57)
def isSg (c : Nat) : Bool := isLet c || isFig c
def isNm : List Nat → Bool
  | [] => false
  | c :: r => isLet c && r.all isSg && decide (r.length ≤ 7)
def NameOk (x : Str) : Prop := isNm x.cps.toList = true
instance (x : Str) : Decidable (NameOk x) := inferInstanceAs (Decidable (_ = true))
theorem NameOk.len {x : Str} (h : NameOk x) : 1 ≤ x.length ∧ x.length ≤ 8 := by
  unfold NameOk at h
  obtain ⟨⟨l⟩⟩ := x
  cases l with
  | nil => exact absurd (show false = true from h) Bool.false_ne_true
  | cons c r =>
    have h' : (isLet c && r.all isSg && decide (r.length ≤ 7)) = true := h
    simp only [Bool.and_eq_true, decide_eq_true_eq] at h'
    show 1 ≤ (Array.mk (c :: r)).size ∧ (Array.mk (c :: r)).size ≤ 8
    simp only [List.size_toArray, List.length_cons]
    omega
theorem nameOk_one {c : Nat} (h : isLet c = true) : NameOk ⟨#[c]⟩ := by
  show (isLet c && ([] : List Nat).all isSg && decide (([] : List Nat).length ≤ 7)) = true
  simp [h]
theorem nameOk_snoc {x : Str} {c : Nat} (h : NameOk x) (hc : isSg c = true) (hl : x.length ≤ 7) : NameOk (x ++ ⟨#[c]⟩) ∧ (x ++ (⟨#[c]⟩ : Str)).length = x.length + 1 := by
  obtain ⟨⟨l⟩⟩ := x
  have e : ((⟨⟨l⟩⟩ : Str) ++ (⟨#[c]⟩ : Str)) = ⟨⟨l ++ [c]⟩⟩ := by
    show (⟨(⟨l⟩ : Array Nat) ++ #[c]⟩ : Str) = ⟨⟨l ++ [c]⟩⟩
    congr 1
    simp
  rw [e]
  have hl' : l.length ≤ 7 := by simpa [Str.length] using hl
  constructor
  · cases l with
    | nil => exact absurd (show false = true from h) Bool.false_ne_true
    | cons d r =>
      have h' : (isLet d && r.all isSg && decide (r.length ≤ 7)) = true := h
      show (isLet d && (r ++ [c]).all isSg && decide ((r ++ [c]).length ≤ 7)) = true
      simp only [Bool.and_eq_true, decide_eq_true_eq, List.all_append, List.length_append, List.length_cons, List.length_nil] at h' hl' ⊢
      refine ⟨⟨h'.1.1, h'.1.2, ?_⟩, by omega⟩
      simp [hc]
  · simp [Str.length]

/-! ### sums -/
inductive Th where
  | num (n : Int)
  | nam (x : Str)
def thV : Th → V
  | .num n => .int n
  | .nam x => .str x
def ThOk : Th → Prop
  | .num n => 0 ≤ n ∧ n < 10 ^ 60
  | .nam x => NameOk x
def TermAt (H : Hp) (v : V) (t : Int × Th) : Prop := ∃ p, v = .ref p ∧ H p = some (.tup [.int t.1, thV t.2]) ∧ ThOk t.2
abbrev Terms (H : Hp) : List V → List (Int × Th) → Prop := Paired (TermAt H)
theorem Paired.get? {α β : Type} {F : α → β → Prop} : ∀ {xs : List α} {ys : List β} {i : Nat} {x : α}, Paired F xs ys → xs[i]? = some x → ∃ y, ys[i]? = some y ∧ F x y
  | _, _, _, _, .nil, e => by simp at e
  | _, _, 0, _, .cons r _, e => by simp at e; subst e; exact ⟨_, rfl, r⟩
  | _, _, i + 1, x, .cons _ t, e => by
    obtain ⟨u, h1, h2⟩ := Paired.get? (i := i) (x := x) t (by simpa using e)
    exact ⟨u, by simpa using h1, h2⟩
theorem Paired.get?' {α β : Type} {F : α → β → Prop} : ∀ {xs : List α} {ys : List β} {i : Nat} {y : β}, Paired F xs ys → ys[i]? = some y → ∃ x, xs[i]? = some x ∧ F x y
  | _, _, _, _, .nil, e => by simp at e
  | _, _, 0, _, .cons r _, e => by simp at e; subst e; exact ⟨_, rfl, r⟩
  | _, _, i + 1, x, .cons _ t, e => by
    obtain ⟨u, h1, h2⟩ := Paired.get?' (i := i) (y := x) t (by simpa using e)
    exact ⟨u, by simpa using h1, h2⟩
theorem TermAt.mono {H H' : Hp} (s : Tups H H') {v : V} {t : Int × Th} (h : TermAt H v t) : TermAt H' v t := by
  obtain ⟨p, e, h, o⟩ := h
  exact ⟨p, e, s p _ h, o⟩
theorem Terms.mono {H H' : Hp} (s : Tups H H') {vs : List V} {ts : List (Int × Th)} (h : Terms H vs ts) : Terms H' vs ts := Paired.mapP h fun _ _ q => q.mono s
structure TermsAt (H : Hp) (t : Addr) (ts : List (Int × Th)) : Prop where
  ex : ∃ vs, H t = some (.tup vs) ∧ Terms H vs ts
  lo : 1 ≤ ts.length
  hi : ts.length ≤ 6
theorem TermsAt.mono {H H' : Hp} (s : Tups H H') {t : Addr} {ts : List (Int × Th)} (h : TermsAt H t ts) : TermsAt H' t ts := by
  obtain ⟨⟨vs, h1, h2⟩, lo, hi⟩ := h
  exact ⟨⟨vs, s t _ h1, h2.mono s⟩, lo, hi⟩

/-! ### pairs of a word's number and a name -/
def NameAt (H : Hp) (v : V) (d : Int × Str) : Prop := ∃ p, v = .ref p ∧ H p = some (.tup [.int d.1, .str d.2])
abbrev Names (H : Hp) : List V → List (Int × Str) → Prop := Paired (NameAt H)
theorem NameAt.mono {H H' : Hp} (s : Tups H H') {v : V} {t : Int × Str} (h : NameAt H v t) : NameAt H' v t := by
  obtain ⟨p, e, h⟩ := h
  exact ⟨p, e, s p _ h⟩
theorem Names.mono {H H' : Hp} (s : Tups H H') {vs : List V} {ts : List (Int × Str)} (h : Names H vs ts) : Names H' vs ts := Paired.mapP h fun _ _ q => q.mono s
/-- the names of a sum with their words' numbers, the first word's number being k -/
def namesOf : Int → List (Int × Th) → List (Int × Str)
  | _, [] => []
  | k, (_, .num _) :: r => namesOf (k + 2) r
  | k, (_, .nam x) :: r => (k, x) :: namesOf (k + 2) r
theorem namesOf_append : ∀ (ts us : List (Int × Th)) (k : Int), namesOf k (ts ++ us) = namesOf k ts ++ namesOf (k + 2 * ts.length) us
  | [], us, k => by simp [namesOf]
  | (s, .num n) :: r, us, k => by
    have e : k + 2 + 2 * (r.length : Int) = k + 2 * (((s, Th.num n) :: r).length : Int) := by simp; omega
    show namesOf (k + 2) (r ++ us) = namesOf (k + 2) r ++ namesOf (k + 2 * (((s, Th.num n) :: r).length : Int)) us
    rw [namesOf_append r us (k + 2), e]
  | (s, .nam x) :: r, us, k => by
    have e : k + 2 + 2 * (r.length : Int) = k + 2 * (((s, Th.nam x) :: r).length : Int) := by simp; omega
    show (k, x) :: namesOf (k + 2) (r ++ us) = (k, x) :: namesOf (k + 2) r ++ namesOf (k + 2 * (((s, Th.nam x) :: r).length : Int)) us
    rw [namesOf_append r us (k + 2), e]
    rfl
theorem namesOf_length : ∀ (ts : List (Int × Th)) (k : Int), (namesOf k ts).length ≤ ts.length
  | [], k => by simp [namesOf]
  | (s, .num n) :: r, k => by
    have := namesOf_length r (k + 2)
    show (namesOf (k + 2) r).length ≤ _
    simp only [List.length_cons]; omega
  | (s, .nam x) :: r, k => by
    have := namesOf_length r (k + 2)
    show ((k, x) :: namesOf (k + 2) r).length ≤ _
    simp only [List.length_cons]; omega
theorem take_succ_get {α : Type} {l : List α} {i : Nat} {x : α} (h : l[i]? = some x) : l.take (i + 1) = l.take i ++ [x] := by
  rw [List.take_succ, h]; rfl
end L2

set_option Elab.async false
set_option linter.all false
set_option maxRecDepth 100000
set_option maxHeartbeats 4000000
/-! join of a tuple of texts, split, and what the two say of each other -/
namespace L2
open PySem PySem.Spec PyProof.Rows
theorem strsAre_of {ys : List Str} : ∀ {us : List Value}, Vals (ys.map V.str) us → StrsAre us ys := by
  induction ys with
  | nil => intro us r; cases r; exact .nil
  | cons y r ih =>
    intro us h
    cases h with
    | cons h1 h2 =>
      obtain ⟨t, rfl⟩ := h1
      exact .cons y t (ih h2)
theorem vals_strs : ∀ (l : List (Str × Tok)), Vals ((l.map (·.1)).map V.str) (strValues l)
  | [] => .nil
  | (x, t) :: r => .cons ⟨t, rfl⟩ (vals_strs r)
section
variable {X : Cx}
theorem mt_join : MtR X "str.join" (fun x vs H Q => ∃ sep p ys, x = .str sep ∧ vs = [.ref p] ∧ (SqT X.K H p (ys.map V.str) ∨ SqL X.K H p (ys.map V.str)) ∧ sep.length ≤ 16 ∧ (ys.map (·.length)).sum + ys.length ≤ 1048576 ∧ Q (.str (Str.join sep ys)) H) := by
  intro pins s σ H x xs v us Q I rx rs h
  obtain ⟨sep, p, ys, rfl, rfl, hq, hs, hw, q⟩ := h
  obtain ⟨t, rfl⟩ := rx
  obtain ⟨u, rfl, ru⟩ := vals1 rs
  cases ru
  rcases hq with hq | hq
  · obtain ⟨its, r', pl, hz⟩ := I.tuple hq
    exact join_tupleW pl (strsAre_of r') hs hw fun t' k => ⟨.str (Txt.join sep ys), H, I.tok _, ⟨_, rfl⟩, by rw [show Txt.join sep ys = Str.join sep ys from StrLaws.glued_eq_join sep ys]; exact q⟩
  · obtain ⟨its, r', pl, hz⟩ := I.list hq
    exact join_listW pl.isList (strsAre_of r') hs hw fun t' k => ⟨.str (Txt.join sep ys), H, I.tok _, ⟨_, rfl⟩, by rw [show Txt.join sep ys = Str.join sep ys from StrLaws.glued_eq_join sep ys]; exact q⟩
open Builtin Builtin.Str in
theorem split1D {prog : Program} {w : World} {A : Around} {E : Value → Shared → Prop} {s : Shared} {x : Str} {t : Tok} {Q : Value → Shared → Prop} {y : Str} {u : Tok} (hy : (y.length == 0) = false)
    (hq : ∀ (l : List (Str × Tok)) (n k : Nat), l.map (·.1) = Txt.split x y → Q (.ref s.heap.objs.size) { s with heap := s.heap.push { cls := .type "list", data := .seq (strValues l).toArray n }, toks := k })
    (hsz : x.length ≤ sizeLine) (hsz2 : (partsBetween x (occurrences x y 0 x.length (x.length + 1)) y.length).length ≤ sizeLine) :
    wpAny (model prog w) A (call (.builtin "str.split") [.str x t, .str y u]) Q E s := by
  cases h1 : (decide (x.length < y.length) || decide (strKind x < strKind y))
  · cases hf : (occurrences x y 0 x.length (x.length + 1)).isEmpty
    · refine call_meets F.slot_str_split (typeIs_str _ _ _) F.entry_str_split (F.args_str_split_2 _ _) (meets_str_split_sep x y t u h1 hy hf hsz hsz2) ?_
      show wants Q E _ { s with toks := _, heap := s.heap.push { cls := .type "list", data := .seq (strsFrom s.toks (partsBetween x (occurrences x y 0 x.length (x.length + 1)) y.length)).toArray } }
      rw [strsFrom_eq]
      exact hq (numbered s.toks _) _ _ ((numbered_texts _ _).trans ((if_neg (ne_true_of_eq_false h1)).trans (if_neg (ne_true_of_eq_false hf))).symm)
    · exact call_meets F.slot_str_split (typeIs_str _ _ _) F.entry_str_split (F.args_str_split_2 _ _) (meets_str_split_not_found x y t u h1 hy hf)
        (hq [(x, t)] _ _ ((if_neg (ne_true_of_eq_false h1)).trans (if_pos hf)).symm)
  · exact call_meets F.slot_str_split (typeIs_str _ _ _) F.entry_str_split (F.args_str_split_2 _ _) (meets_str_split_cannot_occur x y t u h1)
      (hq [(x, t)] _ _ (if_pos h1).symm)
open Builtin Builtin.Str in
theorem parts_le (x y : Str) : (partsBetween x (occurrences x y 0 x.length (x.length + 1)) y.length).length ≤ x.length + 2 := by
  rw [len_partsBetween]
  have := StrLaws.occ_length_le x y 0 x.length (x.length + 1)
  omega
theorem mt_split : MtR X "str.split" (fun x vs H Q => ∃ z y, x = .str z ∧ vs = [.str y] ∧ (y.length == 0) = false ∧ z.length ≤ 100000 ∧ ∀ l, H l = none → Q (.ref l) (upd H l (.lst ((Txt.split z y).map V.str)))) := by
  intro pins s σ H x xs v us Q I rx rs h
  obtain ⟨z, y, rfl, rfl, hy, hz, q⟩ := h
  obtain ⟨t, rfl⟩ := rx
  obtain ⟨u, rfl, ru⟩ := vals1 rs
  obtain ⟨t', rfl⟩ := ru
  have hs : sizeLine = 16777216 := sizeLine_eq
  have hp := parts_le z y
  have hn : H s.heap.objs.size = none := I.hok.fresh (Nat.le_refl _)
  refine split1D hy (fun l n k e => ?_) (by omega) (by omega)
  refine ⟨.ref s.heap.objs.size, _, I.laid (fun b o e => Heap.get?_push_of_some _ e) (Nat.le_refl _) ?_, rfl, q _ hn⟩
  have hl := split_le z y
  refine ⟨by rw [List.length_map]; omega, strValues l, n, ?_, Heap.get?_push_size _ rfl⟩
  rw [← e]
  exact vals_strs l
end

/-! ### texts without a sign, glued by it -/
theorem cut_inj {c : Nat} : ∀ {a b u v : List Nat}, c ∉ a → c ∉ b → a ++ c :: u = b ++ c :: v → a = b ∧ u = v
  | [], [], u, v, _, _, h => by simp at h; exact ⟨rfl, h⟩
  | [], d :: b, u, v, _, hb, h => by
    simp at h
    exact absurd (by rw [h.1]; exact List.mem_cons_self) hb
  | x :: a, [], u, v, ha, _, h => by
    simp at h
    exact absurd (by rw [h.1]; exact List.mem_cons_self) ha
  | x :: a, d :: b, u, v, ha, hb, h => by
    simp at h
    obtain ⟨e1, e2⟩ := cut_inj (a := a) (b := b) (fun z => ha (List.mem_cons_of_mem _ z)) (fun z => hb (List.mem_cons_of_mem _ z)) h.2
    exact ⟨by rw [h.1, e1], e2⟩
theorem str_ext {x y : Str} (h : x.cps.toList = y.cps.toList) : x = y := by
  obtain ⟨⟨a⟩⟩ := x
  obtain ⟨⟨b⟩⟩ := y
  have h' : a = b := h
  rw [h']
theorem glue_list (x : Str) (c : Nat) (r : Str) : (x ++ (⟨#[c]⟩ : Str) ++ r).cps.toList = x.cps.toList ++ c :: r.cps.toList := by
  show (x.cps ++ #[c] ++ r.cps).toList = _
  simp
theorem join_inj {c : Nat} : ∀ {as bs : List Str}, as ≠ [] → bs ≠ [] → (∀ a ∈ as, c ∉ a.cps.toList) → (∀ b ∈ bs, c ∉ b.cps.toList) → Str.join ⟨#[c]⟩ as = Str.join ⟨#[c]⟩ bs → as = bs
  | [], _, h, _, _, _, _ => absurd rfl h
  | _, [], _, h, _, _, _ => absurd rfl h
  | [a], [b], _, _, _, _, h => by
    have h' : a = b := h
    rw [h']
  | [a], b :: b2 :: r, _, _, ha, _, h => by
    have h' : a = b ++ (⟨#[c]⟩ : Str) ++ Str.join ⟨#[c]⟩ (b2 :: r) := h
    have := ha a (List.mem_singleton.mpr rfl)
    rw [h', glue_list] at this
    exact absurd (by simp) this
  | a :: a2 :: r, [b], _, _, _, hb, h => by
    have h' : a ++ (⟨#[c]⟩ : Str) ++ Str.join ⟨#[c]⟩ (a2 :: r) = b := h
    have := hb b (List.mem_singleton.mpr rfl)
    rw [← h', glue_list] at this
    exact absurd (by simp) this
  | a :: a2 :: r, b :: b2 :: q, _, _, ha, hb, h => by
    have h' : a ++ (⟨#[c]⟩ : Str) ++ Str.join ⟨#[c]⟩ (a2 :: r) = b ++ (⟨#[c]⟩ : Str) ++ Str.join ⟨#[c]⟩ (b2 :: q) := h
    have h2 := congrArg (fun z : Str => z.cps.toList) h'
    simp only [glue_list] at h2
    obtain ⟨e1, e2⟩ := cut_inj (ha a List.mem_cons_self) (hb b List.mem_cons_self) h2
    have e3 := join_inj (as := a2 :: r) (bs := b2 :: q) (by simp) (by simp) (fun z hz => ha z (List.mem_cons_of_mem _ hz)) (fun z hz => hb z (List.mem_cons_of_mem _ hz)) (str_ext e2)
    rw [str_ext e1, e3]
theorem split_join {c : Nat} {ws : List Str} (h : ws ≠ []) (hf : ∀ a ∈ ws, c ∉ a.cps.toList) : Txt.split (Str.join ⟨#[c]⟩ ws) ⟨#[c]⟩ = ws := by
  have hp := split_pos (Str.join ⟨#[c]⟩ ws) ⟨#[c]⟩
  refine join_inj (by intro z; rw [z] at hp; simp at hp) h (StrLaws.split_free _ c) hf ?_
  exact StrLaws.join_split _ _

/-! ### words: no blank, not long -/
structure WordOk (x : Str) : Prop where
  nb : 32 ∉ x.cps.toList
  len : x.length ≤ 61
instance (x : Str) : Decidable (WordOk x) := decidable_of_iff (32 ∉ x.cps.toList ∧ x.length ≤ 61) ⟨fun h => ⟨h.1, h.2⟩, fun h => ⟨h.nb, h.len⟩⟩
theorem isSg_ne {c : Nat} (h : isSg c = true) : c ≠ 32 := by
  rintro rfl
  exact absurd h (by decide)
theorem NameOk.signs {x : Str} (h : NameOk x) : ∀ c ∈ x.cps.toList, isSg c = true := by
  unfold NameOk at h
  intro c hc
  cases e : x.cps.toList with
  | nil => rw [e] at hc; simp at hc
  | cons d r =>
    rw [e] at h hc
    have h' : (isLet d && r.all isSg && decide (r.length ≤ 7)) = true := h
    simp only [Bool.and_eq_true, decide_eq_true_eq, List.all_eq_true] at h'
    rcases List.mem_cons.mp hc with z | z
    · rw [z]; unfold isSg; rw [h'.1.1]; rfl
    · exact h'.1.2 c z
theorem NameOk.word {x : Str} (h : NameOk x) : WordOk x := ⟨fun z => isSg_ne (h.signs 32 z) rfl, by have := h.len; omega⟩
def thS : Th → Str
  | .num n => Str.ofString (toString n)
  | .nam x => x
theorem digit_range (m : Nat) : ∀ c ∈ (Nat.toDigits 10 m).map Char.toNat, 48 ≤ c ∧ c ≤ 57 := by
  intro c hc
  obtain ⟨d, hd, rfl⟩ := List.mem_map.mp hc
  have := Nat.isDigit_of_mem_toDigits (by decide) (by decide) hd
  have h2 : d.isDigit = true := this
  simp only [Char.isDigit, Bool.and_eq_true, decide_eq_true_eq] at h2
  exact ⟨h2.1, h2.2⟩
theorem num_text {n : Int} (h0 : 0 ≤ n) (h1 : n < 10 ^ 60) : (Str.ofString (toString n)).cps.toList = (Nat.toDigits 10 n.toNat).map Char.toNat ∧ (Nat.toDigits 10 n.toNat).length ≤ 60 := by
  have e : n = ((n.toNat : Nat) : Int) := by omega
  constructor
  · have h := text_ofNat n.toNat
    rw [show Int.ofNat n.toNat = n from e.symm] at h
    rw [h]
  · exact digits10_le (by decide) (by omega)
theorem ThOk.word {t : Th} (h : ThOk t) : WordOk (thS t) := by
  cases t with
  | nam x => exact NameOk.word h
  | num n =>
    obtain ⟨e, hl⟩ := num_text h.1 h.2
    refine ⟨fun z => ?_, ?_⟩
    · have z' : 32 ∈ (Str.ofString (toString n)).cps.toList := z
      rw [e] at z'
      have := digit_range _ 32 z'
      omega
    · have h2 : (Str.ofString (toString n)).length = ((Str.ofString (toString n)).cps.toList).length := by simp [Str.length]
      show (Str.ofString (toString n)).length ≤ 61
      rw [h2, e, List.length_map]
      omega
/-- the words of a sum -/
def sgS (s : Int) : Str := if s = 1 then "+" else "-"
theorem sgS_ok (s : Int) : WordOk (sgS s) := by
  unfold sgS
  split
  · decide +kernel
  · decide +kernel
def tailW : List (Int × Th) → List Str
  | [] => []
  | (s, t) :: r => sgS s :: thS t :: tailW r
def sumW : List (Int × Th) → List Str
  | [] => []
  | (_, t) :: r => thS t :: tailW r
theorem tailW_snoc (s : Int) (t : Th) : ∀ ts, tailW (ts ++ [(s, t)]) = tailW ts ++ [sgS s, thS t]
  | [] => rfl
  | (a, b) :: r => by
    show sgS a :: thS b :: tailW (r ++ [(s, t)]) = _
    rw [tailW_snoc s t r]
    rfl
theorem sumW_snoc (s : Int) (t : Th) {ts : List (Int × Th)} (h : ts ≠ []) : sumW (ts ++ [(s, t)]) = sumW ts ++ [sgS s, thS t] := by
  cases ts with
  | nil => exact absurd rfl h
  | cons p r =>
    show thS p.2 :: tailW (r ++ [(s, t)]) = _
    rw [tailW_snoc]
    rfl
theorem tailW_len : ∀ ts, (tailW ts).length = 2 * ts.length
  | [] => rfl
  | (a, b) :: r => by
    show (tailW r).length + 1 + 1 = _
    rw [tailW_len r]
    simp only [List.length_cons]; omega
theorem sumW_len {ts : List (Int × Th)} (h : 1 ≤ ts.length) : (sumW ts).length + 1 = 2 * ts.length := by
  cases ts with
  | nil => simp at h
  | cons p r =>
    show (tailW r).length + 1 + 1 = _
    rw [tailW_len]
    simp only [List.length_cons]; omega
theorem tailW_ok : ∀ {ts : List (Int × Th)}, (∀ p ∈ ts, ThOk p.2) → ∀ x ∈ tailW ts, WordOk x
  | [], _, x, hx => by simp [tailW] at hx
  | (a, b) :: r, h, x, hx => by
    have hx' : x ∈ sgS a :: thS b :: tailW r := hx
    rcases List.mem_cons.mp hx' with z | z
    · rw [z]; exact sgS_ok a
    · rcases List.mem_cons.mp z with z | z
      · rw [z]; exact (h (a, b) List.mem_cons_self).word
      · exact tailW_ok (fun p hp => h p (List.mem_cons_of_mem _ hp)) x z
theorem sumW_ok {ts : List (Int × Th)} (h : ∀ p ∈ ts, ThOk p.2) : ∀ x ∈ sumW ts, WordOk x := by
  cases ts with
  | nil => intro x hx; simp [sumW] at hx
  | cons p r =>
    intro x hx
    have hx' : x ∈ thS p.2 :: tailW r := hx
    rcases List.mem_cons.mp hx' with z | z
    · rw [z]; exact (h p List.mem_cons_self).word
    · exact tailW_ok (fun p hp => h p (List.mem_cons_of_mem _ hp)) x z
theorem Terms.ok {H : Hp} : ∀ {vs : List V} {ts : List (Int × Th)}, Terms H vs ts → ∀ p ∈ ts, ThOk p.2
  | _, _, .nil, p, hp => by simp at hp
  | _, _, .cons ⟨_, _, _, o⟩ t, p, hp => by
    rcases List.mem_cons.mp hp with z | z
    · rw [z]; exact o
    · exact Terms.ok t p z
inductive StrsE : List Expr → List Str → Prop
  | nil : StrsE [] []
  | cons {x : Str} {j pos} {es : List Expr} {ys : List Str} (h : StrsE es ys) : StrsE (.Constant (.str x) j pos :: es) (x :: ys)
section
variable {X : Cx}
theorem pa_strs {es : List Expr} {ys : List Str} (h : StrsE es ys) : PA X es (fun _ H Q => Q (ys.map V.str) H) := by
  induction h with
  | nil => exact pa_nil
  | @cons x j pos es ys h ih =>
    exact pa_cons (es := es) (pe_str (x := x) (j := j) (pos := pos)) ih rfl
theorem log_ok {n : Int} (h1 : 0 ≤ n) (h2 : n < 10 ^ 60) : n.natAbs.log2 < 1920 := by
  have h3 : n.natAbs < 2 ^ 1920 := by
    have : n.natAbs < 10 ^ 60 := by omega
    exact Nat.lt_of_lt_of_le this (by decide)
  by_cases hz : n.natAbs = 0
  · rw [hz]; decide
  · exact (Nat.log2_lt hz).mpr h3
/-- str of a thing -/
theorem call_str_th : CallR X (.type "str") (fun xs H Q => ∃ t, xs = [thV t] ∧ ThOk t ∧ Q (.str (thS t)) H) := by
  intro pins s σ H xs us Q I r h
  obtain ⟨t, rfl, hok, q⟩ := h
  cases t with
  | num n => exact call_str_int pins s σ H _ us Q I r ⟨n, rfl, log_ok hok.1 hok.2, q⟩
  | nam x => exact call_str_str pins s σ H _ us Q I r ⟨x, rfl, q⟩
end
end L2

set_option Elab.async false
set_option linter.all false
set_option maxRecDepth 100000
set_option maxHeartbeats 4000000
/-! a list comprehension with one for, by an invariant; its block has its own names and sees the cells of the def around it -/
namespace L2
open PySem PySem.Spec PyProof.Rows

/-! ### the closure of a block -/
def closL (cells : List (Str × Addr)) : List (Str × NameKind) → List (Str × Addr) → List (Str × Addr)
  | [], cs => cs
  | (n, k) :: r, cs => closL cells r (if k == .free then (n, (cells.lookup n).getD 0) :: cs else cs)
theorem closL_pure {cells : List (Str × Addr)} {env : Env} (he : env.cells = cells) : ∀ (l : List (Str × NameKind)) (cs : List (Str × Addr)), (∀ y ∈ l, y.2 = .free → ∃ c, cells.lookup y.1 = some c) →
    (forIn l cs fun p cs => (do if p.2 == .free then (do let a ← cellOf env p.1; pure (ForInStep.yield ((p.1, a) :: cs))) else pure (ForInStep.yield cs) : Sem (ForInStep (List (Str × Addr))))) = pure (closL cells l cs) := by
  intro l
  induction l with
  | nil => intro cs _; rfl
  | cons p r ih =>
    intro cs h
    obtain ⟨n, k⟩ := p
    rw [List.forIn_cons]
    have hr : ∀ y ∈ r, y.2 = .free → ∃ c, cells.lookup y.1 = some c := fun y hy => h y (List.mem_cons_of_mem _ hy)
    by_cases hk : k = .free
    · subst hk
      obtain ⟨c, hc⟩ := h (n, .free) List.mem_cons_self rfl
      have hc' : env.cells.lookup n = some c := by rw [he]; exact hc
      have e : cellOf env n = pure c := by unfold cellOf; rw [hc']
      simp only [beq_self_eq_true, if_true, e, pure_bind]
      rw [ih _ hr]
      unfold closL
      rw [if_pos (by simp), show (cells.lookup n).getD 0 = c by rw [show cells.lookup n = some c from hc]; rfl]
      conv => rhs; unfold closL
    · have hb : (k == NameKind.free) = false := by simpa using hk
      simp only [hb, Bool.false_eq_true, if_false, pure_bind]
      rw [ih _ hr]
      conv => rhs; unfold closL
      rw [if_neg (by rw [hb]; exact Bool.false_ne_true)]
theorem closL_lookup {cells : List (Str × Addr)} {x : Str} {c : Addr} : ∀ (l : List (Str × NameKind)) (cs : List (Str × Addr)), (∀ y ∈ l, y.2 = .free → ∃ c, cells.lookup y.1 = some c) → (closL cells l cs).lookup x = some c → cells.lookup x = some c ∨ cs.lookup x = some c
  | [], cs, _, h => .inr h
  | (n, k) :: r, cs, hy, h => by
    unfold closL at h
    rcases closL_lookup r _ (fun y q => hy y (List.mem_cons_of_mem _ q)) h with h | h
    · exact .inl h
    · by_cases hk : k = .free
      · subst hk
        obtain ⟨c', hc⟩ := hy (n, .free) List.mem_cons_self rfl
        have hc : cells.lookup n = some c' := hc
        rw [if_pos (by simp), List.lookup_cons] at h
        split at h
        · rename_i e
          have e' : x = n := by simpa using e
          subst e'
          rw [hc] at h
          cases h
          exact .inl hc
        · exact .inr h
      · rw [if_neg (by simpa using hk)] at h
        exact .inr h
theorem closL_keep {cells : List (Str × Addr)} {x : Str} : ∀ (l : List (Str × NameKind)) (cs : List (Str × Addr)), (∃ c, cs.lookup x = some c) → ∃ c, (closL cells l cs).lookup x = some c
  | [], _, h => h
  | (n, k) :: r, cs, h => by
    unfold closL
    refine closL_keep r _ ?_
    split
    · rw [List.lookup_cons]
      split
      · exact ⟨_, rfl⟩
      · exact h
    · exact h
theorem closL_has {cells : List (Str × Addr)} {x : Str} : ∀ (l : List (Str × NameKind)) (cs : List (Str × Addr)), (x, NameKind.free) ∈ l → ∃ c, (closL cells l cs).lookup x = some c
  | (n, k) :: r, cs, h => by
    unfold closL
    rcases List.mem_cons.mp h with e | h
    · cases e
      refine closL_keep r _ ?_
      rw [if_pos (by simp), List.lookup_cons]
      simp
    · exact closL_has r _ h
theorem closure_pure {sc : Scope} {env : Env} (h : ∀ y ∈ sc.names, y.2 = .free → ∃ c, env.cells.lookup y.1 = some c) : closureFor sc env = pure (closL env.cells sc.names []) := by
  have := closL_pure (env := env) rfl sc.names [] h
  unfold closureFor
  simp only [bind_pure]
  exact this
theorem relabel_free {env : Env} {x : Str} : ∀ {names : List (Str × NameKind)}, names.lookup x = some .free →
    (names.map fun (n, k) => if (k == NameKind.free && env.scope.kind == .function && env.kindOf n == some .cell) then (n, NameKind.cell) else (n, k)).lookup x = some .cell ∨
    (names.map fun (n, k) => if (k == NameKind.free && env.scope.kind == .function && env.kindOf n == some .cell) then (n, NameKind.cell) else (n, k)).lookup x = some .free
  | [], h => by simp at h
  | (n, k) :: r, h => by
    have ih := @relabel_free env x r
    simp only [List.map_cons]
    by_cases hc : (k == NameKind.free && env.scope.kind == .function && env.kindOf n == some .cell) = true
    · rw [if_pos hc]
      simp only [List.lookup_cons] at h ⊢
      cases hx : x == n with
      | true => exact .inl rfl
      | false => simp only [hx] at h ⊢; exact ih h
    · rw [if_neg hc]
      simp only [List.lookup_cons] at h ⊢
      cases hx : x == n with
      | true => simp only [hx] at h ⊢; exact .inr h
      | false => simp only [hx] at h ⊢; exact ih h
theorem relabel_back {env : Env} {x : Str} : ∀ {names : List (Str × NameKind)},
    (names.map fun (n, k) => if (k == NameKind.free && env.scope.kind == .function && env.kindOf n == some .cell) then (n, NameKind.cell) else (n, k)).lookup x = some .cell ∨
    (names.map fun (n, k) => if (k == NameKind.free && env.scope.kind == .function && env.kindOf n == some .cell) then (n, NameKind.cell) else (n, k)).lookup x = some .free →
    (x, NameKind.free) ∈ names ∨ (x, NameKind.cell) ∈ names
  | [], h => by simp at h
  | (n, k) :: r, h => by
    have ih := @relabel_back env x r
    simp only [List.map_cons] at h
    have tl : (x, NameKind.free) ∈ r ∨ (x, NameKind.cell) ∈ r → (x, NameKind.free) ∈ (n, k) :: r ∨ (x, NameKind.cell) ∈ (n, k) :: r := fun q => q.imp (List.mem_cons_of_mem _) (List.mem_cons_of_mem _)
    by_cases hc : (k == NameKind.free && env.scope.kind == .function && env.kindOf n == some .cell) = true
    · rw [if_pos hc] at h
      have hk : k = .free := by
        simp only [Bool.and_eq_true] at hc
        simpa using hc.1.1
      simp only [List.lookup_cons] at h
      cases hx : x == n with
      | true =>
        have e : x = n := by simpa using hx
        subst e hk
        exact .inl List.mem_cons_self
      | false => simp only [hx] at h; exact tl (ih h)
    · rw [if_neg hc] at h
      simp only [List.lookup_cons] at h
      cases hx : x == n with
      | true =>
        have e : x = n := by simpa using hx
        subst e
        simp only [hx] at h
        rcases h with h | h
        · cases h; exact .inr List.mem_cons_self
        · cases h; exact .inl List.mem_cons_self
      | false => simp only [hx] at h; exact tl (ih h)

/-! ### the block's names: M, and where those that it sees stand around it -/
structure CompScope (osc : Scope) (N : List Str) (sc : Scope) (M : List Str) (ρ : List (Option Nat)) : Prop where
  kind : sc.kind = .function
  nocell : ∀ y ∈ sc.names, y.2 ≠ .cell
  own : ∀ y ∈ sc.names, y.2 = .local → sc.names.lookup y.1 = some .local
  fre : ∀ y ∈ sc.names, y.2 = .free → osc.names.lookup y.1 = some .cell ∨ osc.names.lookup y.1 = some .free
  len : ρ.length = M.length
  ren : ∀ p ∈ ρ.zip M, (match p.1 with | none => true | some i => decide (N[i]? = some p.2 ∧ sc.names.lookup p.2 = some .free)) = true
  nd : M.Nodup
def subS (ρ : List (Option Nat)) (σ : St) : St := ρ.map fun o => match o with | none => none | some i => (σ[i]?).join
def cxComp (X : Cx) (sc : Scope) (cl : List (Str × Addr)) (C : Addr) (M : List Str) (s : Shared) (H : Hp) (fp : List Addr) (xe : Value → Shared → Prop) : Cx where
  prog := X.prog
  w := X.w
  K := X.K
  mg := X.mg
  base := X.base
  A := X.A
  N := M
  s₀ := s
  H₀ := H
  env := compEnvC sc cl C X.env
  outer := X.stack
  stack := X.stack
  ex := fp
  fn := fun _ => false
  calm := X.calm
  pn := []
  xe := xe

/-- one turn after another, whatever the target is -/
theorem comp_loop {P : Program} {w : World} {A : Around} {R : Result → Shared → Prop} {s : Shared} {elt tg iter : Expr} {ifs : List Expr} {sc : Scope} {pos : Pos} {it acc : Value} {env : Env} (J : Nat → Shared → Prop)
    (turn : ∀ n s, J n s → wpAny (model P w) A (pyNext it) (fun r s1 => match r with
      | none => R (.ok .next) s1
      | some v => wpAny (model P w) A (letOwnedTupleGo tg it v) (fun _ s2 => wpAny (model P w) A (assign tg env v) (fun _ s3 =>
          wpAny (model P w) A (forIn ifs true fun c r => if r = true then do let ok ← isTrue c env (eval c env); pure (ForInStep.yield ok) else pure (ForInStep.yield r)) (fun ok s4 =>
            if ok = true then wpAny (model P w) A (eval elt env) (fun x s5 => wpAny (model P w) A (call (.builtin "list.append") [acc, x]) (fun _ s6 => ∃ m, m < n ∧ J m s6) (notedBy (model P w) A env fun e s' => R (.error e) s') s5)
              (notedBy (model P w) A env fun e s' => R (.error e) s') s4
            else ∃ m, m < n ∧ J m s4) (notedBy (model P w) A env fun e s' => R (.error e) s') s3) (notedBy (model P w) A env fun e s' => R (.error e) s') s2) (notedBy (model P w) A env fun e s' => R (.error e) s') s1)
      (notedBy (model P w) A env fun e s' => R (.error e) s') s)
    (n : Nat) (h : J n s) : codeAny (model P w) A (.compLoop (.ListComp elt [⟨tg, iter, ifs, 0⟩] sc pos) 0 it acc env) R s := by
  refine codeAny_loop rfl J (fun n s hJ => ?_) n h
  show wpAny (model P w) A ((compTurn (.ListComp elt [⟨tg, iter, ifs, 0⟩] sc pos) 0 it acc env).onRaise fun x => do noteFrame x env; theTreesLotGoes x) _ _ s
  refine wpAny_noted ?_
  rw [compTurn_list]
  refine wpAny_bind (wpAny_standAt (wpAny_bind (thn (turn n s hJ) fun r s1 h1 => ?_)))
  cases r with
  | none => exact wpAny_pure h1
  | some v =>
    refine wpAny_bind (thn h1 fun _ s2 h2 => wpAny_bind (thn h2 fun _ s3 h3 => wpAny_bind (thn h3 fun ok s4 h4 => ?_)))
    cases ok with
    | false => exact wpAny_pure ⟨rfl, h4⟩
    | true => exact wpAny_bind (wpAny_bind (thn h4 fun x s5 h5 => wpAny_bind (thn h5 fun _ s6 h6 => wpAny_pure (wpAny_pure ⟨rfl, h6⟩))))

/-! ### the tests of a block: none or one -/
def PTs (X : Cx) (ifs : List Expr) (t : TT) : Prop :=
  ∀ (pins : List (Addr × Obj)) (s : Shared) (σ : St) (H : Hp) (Q : Bool → Hp → Prop), Inv X pins σ H s → t σ H Q →
    wpAny (model X.prog X.w) X.A (forIn ifs true fun c r => if r = true then do let ok ← isTrue c X.env (eval c X.env); pure (ForInStep.yield ok) else pure (ForInStep.yield r)) (TP X pins σ Q) X.xe s
def tNoTest : TT := fun _ H Q => Q true H
theorem nt {σ : St} {H : Hp} {A B : Hp → Prop} (h : A H) : tNoTest σ H (fun b H5 => if b = true then A H5 else B H5) := by
  show if true = true then A H else B H
  exact iteT h
theorem ntG {i : Nat} {v : V} {σ : St} {H : Hp} {A B : St → Hp → Prop} (h : A (σ.set i (some v)) H) : gName i v σ H (fun σ4 H4 => tNoTest σ4 H4 fun b H5 => if b = true then A σ4 H5 else B σ4 H5) := by
  show if true = true then A (σ.set i (some v)) H else B (σ.set i (some v)) H
  exact iteT h
theorem pts_nil {X : Cx} : PTs X [] tNoTest := fun _ _ _ H _ I h => wpAny_tests_nil ⟨H, I, h⟩
theorem pts_one {X : Cx} {c : Expr} {t : TT} (h : PT X c t) : PTs X [c] t := fun pins s σ H Q I q => wpAny_tests_one (h pins s σ H Q I q)

/-! ### the rule -/
/-- D: the list that is made; W: the invariant by the turn and a measure -/
def tComp (wi : TI) (ρ : List (Option Nat)) (g : TG) (tt : TT) (te : TE) : TE := fun σ H Q => wi σ H fun J H1 => ∀ D, H1 D = none → ∃ W : Nat → Nat → St → Hp → Prop, (∃ m, W 0 m (subS ρ σ) (upd H1 D (.lst []))) ∧ ∀ i m σ2 H2, W i m σ2 H2 →
  (J.stop i H2 ∧ Q (.ref D) H2) ∨ (J.go i H2 ∧ ∃ N : St → Hp → Prop, (∀ σ' H', N σ' H' → ∃ m', m' < m ∧ W (i + 1) m' σ' H') ∧ ∀ x H3, J.yld i H2 x H3 → g x σ2 H3 fun σ4 H4 => tt σ4 H4 fun b H5 =>
    if b = true then te σ4 H5 fun y H6 => ∃ ys, H6 D = some (.lst ys) ∧ ys.length < sizeLine ∧ N σ4 (upd H6 D (.lst (ys ++ [y])))
    else N σ4 H5)
/-- the turns by a word of the turn's number -/
theorem comp_by {J : It} {g : TG} {tt : TT} {te : TE} {Q : Hp → Prop} {σ : St} {H : Hp} {D : Addr} (n : Nat) (Pv : Nat → St → Hp → Prop) (h0 : Pv 0 σ (upd H D (.lst [])))
    (hs : ∀ i σ2 H2, i < n → Pv i σ2 H2 → J.go i H2 ∧ ∀ x H3, J.yld i H2 x H3 → g x σ2 H3 fun σ4 H4 => tt σ4 H4 fun b H5 =>
      if b = true then te σ4 H5 fun y H6 => ∃ ys, H6 D = some (.lst ys) ∧ ys.length < sizeLine ∧ Pv (i + 1) σ4 (upd H6 D (.lst (ys ++ [y]))) else Pv (i + 1) σ4 H5)
    (hd : ∀ σ2 H2, Pv n σ2 H2 → J.stop n H2 ∧ Q H2) :
    ∃ W : Nat → Nat → St → Hp → Prop, (∃ m, W 0 m σ (upd H D (.lst []))) ∧ ∀ i m σ2 H2, W i m σ2 H2 →
      (J.stop i H2 ∧ Q H2) ∨ (J.go i H2 ∧ ∃ N : St → Hp → Prop, (∀ σ' H', N σ' H' → ∃ m', m' < m ∧ W (i + 1) m' σ' H') ∧ ∀ x H3, J.yld i H2 x H3 → g x σ2 H3 fun σ4 H4 => tt σ4 H4 fun b H5 =>
        if b = true then te σ4 H5 fun y H6 => ∃ ys, H6 D = some (.lst ys) ∧ ys.length < sizeLine ∧ N σ4 (upd H6 D (.lst (ys ++ [y]))) else N σ4 H5) := by
  refine ⟨fun i m σ H => m = n - i ∧ i ≤ n ∧ Pv i σ H, ⟨n, by simp, Nat.zero_le _, h0⟩, ?_⟩
  rintro i m σ2 H2 ⟨rfl, hi, p⟩
  by_cases hlt : i < n
  · obtain ⟨h1, h2⟩ := hs i σ2 H2 hlt p
    exact .inr ⟨h1, Pv (i + 1), fun σ' H' p' => ⟨n - (i + 1), by omega, rfl, hlt, p'⟩, h2⟩
  · have e : i = n := by omega
    subst e
    exact .inl (hd σ2 H2 p)
section
variable {X : Cx} {tg elt iter : Expr} {ifs : List Expr} {sc : Scope} {pos : Pos} {M : List Str} {ρ : List (Option Nat)} {wi : TI} {g : TG} {tt : TT} {te : TE}
theorem comp_block (osc : Scope) (hosc : X.env.scope = osc) (N : List Str) (hN : X.N = N) (S : CompScope osc N sc M ρ) (hc : X.calm = true)
    (hg : ∀ cl C s H fp xe, PG (cxComp X sc cl C M s H fp xe) tg g) (ht : ∀ cl C s H fp xe, PTs (cxComp X sc cl C M s H fp xe) ifs tt) (he : ∀ cl C s H fp xe, PE (cxComp X sc cl C M s H fp xe) elt te)
    {pins : List (Addr × Obj)} {σ : St} {H : Hp} {s : Shared} {itv : Value} {Q : VK} {RR : Value → Addr → Result → Shared → Prop} (I : Inv X pins σ H s)
    (h2 : PIE X pins σ tg (fun J H1 => ∀ D, H1 D = none → ∃ W : Nat → Nat → St → Hp → Prop, (∃ m, W 0 m (subS ρ σ) (upd H1 D (.lst []))) ∧ ∀ i m σ2 H2, W i m σ2 H2 →
      (J.stop i H2 ∧ Q (.ref D) H2) ∨ (J.go i H2 ∧ ∃ N : St → Hp → Prop, (∀ σ' H', N σ' H' → ∃ m', m' < m ∧ W (i + 1) m' σ' H') ∧ ∀ x H3, J.yld i H2 x H3 → g x σ2 H3 fun σ4 H4 => tt σ4 H4 fun b H5 =>
        if b = true then te σ4 H5 fun y H6 => ∃ ys, H6 D = some (.lst ys) ∧ ys.length < sizeLine ∧ N σ4 (upd H6 D (.lst (ys ++ [y])))
        else N σ4 H5)) itv s)
    (hR : ∀ (D C : Addr) (H' : Hp) (s' : Shared) (mC : Str → Option Value), Inv X pins σ H' s' → s'.heap.Ns C mC → FpOk X pins H' C → Q (.ref D) H' → RR (.ref D) C (.ok .next) s') :
    wpAny (model X.prog X.w) X.A (newList []) (fun acc s3 => wpAny (model X.prog X.w) X.A (newFunctionEnv sc X.env.globals (closL X.env.cells sc.names []) [] X.env.qual none .none (some X.env)) (fun cenv s4 =>
      codeAny (model X.prog X.w) X.A (.compStart (.ListComp elt [⟨tg, iter, ifs, 0⟩] sc pos) 0 itv acc { cenv with scope := relabel sc X.env }) (RR acc cenv.locals) s4) X.xe s3) X.xe s := by
  subst hosc hN
  obtain ⟨it, fp, tn, J, H2, rfl, I2, T, st2, f2, q2⟩ := h2
  have hcells : ∀ y ∈ sc.names, y.2 = .free → ∃ c, X.env.cells.lookup y.1 = some c := fun y hy hf => I2.ok.has y.1 (S.fre y hy hf)
  have hclx : ∀ {x c}, (closL X.env.cells sc.names []).lookup x = some c → X.env.cells.lookup x = some c := fun {x c} e => (closL_lookup _ _ hcells e).elim id fun z => by simp at z
  generalize hcl : closL X.env.cells sc.names [] = cl at hclx ⊢
  refine wpAny_newObj_type (wpAny_newFunctionEnv S.nocell (by intro y hy; simp at hy) (fun h1 hns hsb => ?_) S.kind)
  dsimp only at hns hsb ⊢
  generalize hG : s.heap.push { cls := .type "list", dict := none, data := .seq ([] : List Value).toArray } = G at hns hsb ⊢
  have hC : G.objs.size = s.heap.objs.size + 1 := by rw [← hG, Heap.size_push]
  have old : ∀ b o, s.heap.get? b = some o → h1.get? b = some o := fun b o e =>
    hsb.extBut b o (Nat.ne_of_lt (by rw [hC]; exact Nat.lt_succ_of_lt (Heap.lt_size e))) (Heap.get?_push_of_some _ (hG ▸ Heap.get?_push_of_some _ e))
  have hD1 : h1.get? s.heap.objs.size = some { cls := .type "list", dict := none, data := .seq ([] : List Value).toArray } :=
    hsb.extBut _ _ (by rw [hC]; exact Nat.ne_of_lt (Nat.lt_succ_self _)) (Heap.get?_push_of_some _ (hG ▸ Heap.get?_push_size _ rfl))
  have hDn : H2 s.heap.objs.size = none := I2.hok.fresh (Nat.le_refl _)
  obtain ⟨W, ⟨m0, w0⟩, turn⟩ := q2 s.heap.objs.size hDn
  have hCle : s.heap.objs.size ≤ G.objs.size := by rw [hC]; exact Nat.le_succ _
  have hCD : G.objs.size ≠ s.heap.objs.size := by rw [hC]; exact Nat.succ_ne_self _
  -- the block's context
  generalize hxe : notedBy (model X.prog X.w) X.A (compEnvC sc cl G.objs.size X.env) (fun e s' => RR (.ref s.heap.objs.size) G.objs.size (.error e) s') = xe
  have fpC : ∀ b ∈ fp, b ≠ G.objs.size := fun b hb => by
    obtain ⟨o, e, _⟩ := T.obj 0 _ st2 b hb
    have := Heap.lt_size e
    exact Nat.ne_of_lt (Nat.lt_of_lt_of_le this hCle)
  have fpS : ∀ b ∈ fp, b ∉ frs X.stack := fun b hb z => by
    obtain ⟨f0, f1, f3, _⟩ := f2 b hb
    rcases List.mem_cons.mp (I2.stkSub b z) with e | e
    · exact f1 e
    · exact f3 e
  have hok : (cxComp X sc cl G.objs.size M s H2 fp xe).Ok := by
    refine ⟨I2.ok.mod, S.kind, I2.ok.glob, I2.ok.blt, hCle, fun x y c e1 e2 => I2.ok.inj x y c (hclx e1) (hclx e2), fun x hx => ?_, (fun x c e _ => absurd (show false = true from e) Bool.false_ne_true), I2.ok.hd, I2.ok.frames, .inl rfl, fun b hb => ⟨fpC b hb, fun x c e => (f2 b hb).2.2.2.2.1 x c (hclx e)⟩,
      I2.bs, Nat.le_trans I2.ok.bsz I2.sz, fun b o e hb => ?_, fpS, I2.stack, I2.stkFree⟩
    · rcases relabel_back (names := sc.names) (env := X.env) hx with q | q
      · rw [← hcl]; exact closL_has _ _ q
      · exact absurd rfl (S.nocell _ q)
    · rcases (f2 b hb).2.2.2.1 with z | z
      · exact I2.ok.noex b o e z
      · exact absurd (Nat.lt_of_lt_of_le (Heap.lt_size e) (Nat.le_trans I2.ok.bsz z)) (Nat.lt_irrefl _)
  have I4 : Inv (cxComp X sc cl G.objs.size M s H2 fp xe) [] (subS ρ σ) (upd H2 s.heap.objs.size (.lst [])) { s with heap := h1, toks := s.toks + ([] : List (Str × Value)).length } := by
    refine ⟨hok, rfl, I2.bare, Un.laid old (Nat.le_refl _) hDn, ⟨_, hns, fun j x v e1 e2 _ => ?_⟩, fun x c e => ?_, ?_, fun x c e => ?_, fun p hp => absurd (show p ∈ ([] : List (Addr × Obj)) from hp) (by simp), I2.hok.laid old (Nat.le_refl _) ⟨by show 0 ≤ sizeLine; decide, [], 0, .nil, hD1⟩, ?_⟩
    · unfold subS at e2
      rw [List.getElem?_map] at e2
      cases q : ρ[j]? with
      | none => rw [q] at e2; cases e2
      | some o =>
        rw [q] at e2
        cases o with
        | none => cases e2
        | some i =>
          have e2' : (σ[i]?).join = some v := Option.some.inj e2
          have e3 : σ[i]? = some (some v) := by
            cases z : σ[i]? with
            | none => rw [z] at e2'; cases e2'
            | some y => rw [z] at e2'; cases y with
              | none => cases e2'
              | some y => cases e2'; rfl
          have hz : (ρ.zip M)[j]? = some (some i, x) := List.getElem?_zip_eq_some.mpr ⟨q, e1⟩
          have hr := S.ren (some i, x) (List.mem_of_getElem? hz)
          obtain ⟨r1, r2⟩ := of_decide_eq_true hr
          obtain ⟨m, hn, hl⟩ := I2.loc
          have hfr := S.fre _ (PySem.mem_of_lookup r2) rfl
          obtain ⟨u, ru, lk⟩ := hl i x v r1 e3 (hfr.elim (fun z => .inr (.inl z)) fun z => .inr (.inr z))
          refine ⟨u, ru, ?_⟩
          rcases lk with ⟨k, _⟩ | ⟨_, c, hcc, cell⟩
          · have k' : X.env.scope.names.lookup x = some .local := k
            rcases hfr with z | z
            · rw [k'] at z; cases z
            · rw [k'] at z; cases z
          · obtain ⟨c', hc'⟩ := closL_has (cells := X.env.cells) sc.names [] (PySem.mem_of_lookup r2)
            rw [hcl] at hc'
            have := hclx hc'
            rw [hcc] at this
            cases this
            obtain ⟨oc, ho, hd⟩ := cell
            exact .inr ⟨relabel_free r2, _, hc', oc, old _ _ ho, hd⟩
    · obtain ⟨v, oc, ho, hd⟩ := I2.cell x c (hclx e)
      exact ⟨v, oc, old _ _ ho, hd⟩
    · show upd H2 s.heap.objs.size (.lst []) G.objs.size = none
      rw [upd_ne hCD]
      exact I2.hok.fresh hCle
    · show upd H2 s.heap.objs.size (.lst []) c = none
      obtain ⟨v, oc, ho, hd⟩ := I2.cell x c (hclx e)
      rw [upd_ne (Nat.ne_of_lt (Heap.lt_size ho))]
      exact I2.freeC x c (hclx e)
    · show (subS ρ σ).length = M.length
      unfold subS
      rw [List.length_map, S.len]
  have st4 : tn 0 h1 := T.keep 0 _ _ st2 fun b _ o e => old b o e
  have fr4 : ∀ b ∈ fp, upd H2 s.heap.objs.size (.lst []) b = none := fun b hb => by
    obtain ⟨o, e, _⟩ := T.obj 0 _ st2 b hb
    rw [upd_ne (Nat.ne_of_lt (Heap.lt_size e))]
    exact (f2 b hb).1
  have stat : ∀ {H' : Hp}, (∀ b ∈ fp, H' b = none) → ∀ b ∈ fp, FpOk (cxComp X sc cl G.objs.size M s H2 fp xe) [] H' b := fun hn b hb =>
    ⟨hn b hb, fpC b hb, fpS b hb, .inl hb, fun x c e => (f2 b hb).2.2.2.2.1 x c (hclx e), fun p hp => absurd (show p ∈ ([] : List (Addr × Obj)) from hp) (by simp)⟩
  have loop : codeAny (model X.prog X.w) X.A (.compLoop (.ListComp elt [⟨tg, iter, ifs, 0⟩] sc pos) 0 (.ref it) (.ref s.heap.objs.size) (compEnvC sc cl G.objs.size X.env)) (RR (.ref s.heap.objs.size) G.objs.size)
      { s with heap := h1, toks := s.toks + ([] : List (Str × Value)).length } := by
    refine comp_loop (fun n s' => ∃ i σ' H', Inv (cxComp X sc cl G.objs.size M s H2 fp xe) [] σ' H' s' ∧ tn i s'.heap ∧ (∀ b ∈ fp, H' b = none) ∧ W i n σ' H') ?_ m0 ⟨0, _, _, I4, st4, fr4, w0⟩
    rw [hxe]
    rintro n s3 ⟨i, σ3, H3, I3, st3, fr3, w3⟩
    rcases turn i n σ3 H3 w3 with ⟨stop, qn⟩ | ⟨go, N, hN, step⟩
    · refine thn (T.done (cxComp X sc cl G.objs.size M s H2 fp xe) rfl rfl rfl hc i [] s3 σ3 H3 xe I3 (stat fr3) st3 stop) fun r s4 ⟨hr, I5⟩ => ?_
      subst hr
      obtain ⟨mC, nC, _⟩ := I5.loc
      have I6 : Inv X pins σ H3 s4 := I2.call' I5.os I5.base I5.hok I5.bare fun b hb => ⟨(f2 b hb).2.2.2.1, (f2 b hb).2.1, (f2 b hb).2.2.2.2.1, (f2 b hb).2.2.2.2.2⟩
      exact hR _ _ H3 s4 mC I6 nC (I2.fpOk hCle I5.free) qn
    · refine thn (T.item (cxComp X sc cl G.objs.size M s H2 fp xe) rfl rfl rfl hc i [] s3 σ3 H3 xe I3 (stat fr3) st3 go) fun r s4 ⟨u, hr, h4⟩ => ?_
      subst hr
      refine thn h4 fun _ s5 ⟨x, H5, I5, r5, y5, st5, fr5⟩ => ?_
      have I5' := I5.pinned (stat fr5) (T.obj _ _ st5)
      refine thn (hg cl G.objs.size s H2 fp xe _ s5 σ3 H5 x u _ I5' r5 (step x H5 y5)) fun _ s6 ⟨σ6, H6, I6, q6⟩ => ?_
      have fin : ∀ {s7 : Shared} {σ7 : St} {H7 : Hp}, Inv (cxComp X sc cl G.objs.size M s H2 fp xe) ([] ++ pinsAt fp s5.heap) σ7 H7 s7 → (∃ m', m' < n ∧ W (i + 1) m' σ7 H7) →
          ∃ m, m < n ∧ ∃ i σ' H', Inv (cxComp X sc cl G.objs.size M s H2 fp xe) [] σ' H' s7 ∧ tn i s7.heap ∧ (∀ b ∈ fp, H' b = none) ∧ W i m σ' H' := fun {s7 σ7 H7} I7 ⟨m', hm, w7⟩ => by
        refine ⟨m', hm, i + 1, σ7, H7, I7.unpinned, T.keep _ _ _ st5 fun b hb o e => (I7.pin (b, o) (List.mem_append_right _ (List.mem_append_right _ (mem_pinsAt hb e)))).1, fun b hb => ?_, w7⟩
        obtain ⟨o, e, d⟩ := T.obj _ _ st5 b hb
        exact (I7.pin (b, o) (List.mem_append_right _ (List.mem_append_right _ (mem_pinsAt hb e)))).2.1
      refine thn (ht cl G.objs.size s H2 fp xe _ s6 σ6 H6 _ I6 q6) fun ok s7 ⟨H7, I7, q7⟩ => ?_
      cases ok with
      | false =>
        rw [if_neg Bool.false_ne_true] at q7 ⊢
        exact fin I7 (hN _ _ q7)
      | true =>
        rw [if_pos rfl] at q7 ⊢
        refine thn (he cl G.objs.size s H2 fp xe _ s7 σ6 H7 _ I7 q7) fun y s8 ⟨yv, H8, I8, r8, ys, hys, hlt, q8⟩ => ?_
        obtain ⟨z, its, k, rv, hl, e⟩ := I8.lstM hys
        refine call_meets F.slot_list_append ⟨_, e, rfl⟩ F.entry_list_append (F.args_list_append_2 _ _) (PySem.list_append _ its.toArray k y (by rw [List.size_toArray]; omega)) ⟨e, ?_⟩
        exact fin (I8.lset (its' := its ++ [y]) hys e (by simp) (rv.append (.cons r8 .nil)) (by rw [List.length_append, List.length_singleton]; omega)) (hN _ _ q8)
  exact codeAny_compStart_list loop (T.self X.A 0 _ _ _ st4 loop)
theorem pe_comp (osc : Scope) (N : List Str) (S : CompScope osc N sc M ρ) (hi : PI X tg iter wi) (hg : ∀ cl C s H fp xe, PG (cxComp X sc cl C M s H fp xe) tg g) (ht : ∀ cl C s H fp xe, PTs (cxComp X sc cl C M s H fp xe) ifs tt)
    (he : ∀ cl C s H fp xe, PE (cxComp X sc cl C M s H fp xe) elt te) (hosc : X.env.scope = osc := by rfl) (hN : X.N = N := by rfl) (hc : X.calm = true := by rfl) (hs : ∀ x, foldedSetIterable iter X.env x = pure x := by intro _; rfl) :
    PE X (.ListComp elt [⟨tg, iter, ifs, 0⟩] sc pos) (tComp wi ρ g tt te) := by
  intro pins s σ H Q I h
  have hcells : ∀ y ∈ sc.names, y.2 = .free → ∃ c, X.env.cells.lookup y.1 = some c := fun y hy hf => I.ok.has y.1 (by show X.env.scope.names.lookup y.1 = _ ∨ X.env.scope.names.lookup y.1 = _; rw [hosc]; exact S.fre y hy hf)
  rw [eval_ListComp]
  refine wpAny_comprehension_free (M := model X.prog X.w) (A := X.A) (E := X.xe) (e := .ListComp elt [⟨tg, iter, ifs, 0⟩] sc pos) rfl hs (closure_pure hcells) S.kind S.own (thn (hi pins s σ H _ I h) fun v s1 h1 => thn h1 fun itv s2 h2 => ?_)
  obtain ⟨_, _, _, _, _, _, I2, _⟩ := id h2
  refine comp_block (RR := fun acc C => compPost (model X.prog X.w) X.A X.xe none (EP X pins σ Q) acc C) osc hosc N hN S hc hg ht he I2 h2 fun D C H' s' mC I' nC fC q => ?_
  refine ⟨mC, nC, fun h' sb => ?_⟩
  obtain ⟨f0, f1, _, f3, f4, f5⟩ := fC
  exact ⟨.ref D, H', I'.turned (t' := s'.toks) (fun b o hb e => (sb.2 b hb).trans e) f0 f1 f3 f4 f5, rfl, q⟩
/-- name = [..] where the store comes ahead of the block's end -/
theorem ps_setC {j : Nat} {x : Str} {px spos : Pos} (osc : Scope) (N : List Str) (S : CompScope osc N sc M ρ) (hNd : X.N.Nodup) (hj : X.N[j]? = some x) (hx : Loc X.env.scope x) (hi : PI X tg iter wi) (hg : ∀ cl C s H fp xe, PG (cxComp X sc cl C M s H fp xe) tg g)
    (ht : ∀ cl C s H fp xe, PTs (cxComp X sc cl C M s H fp xe) ifs tt) (he : ∀ cl C s H fp xe, PE (cxComp X sc cl C M s H fp xe) elt te)
    (hsw : swapsWith (.ListComp elt [⟨tg, iter, ifs, 0⟩] sc pos) (some (.Name x px)) spos.line X.env = pure true := by rfl) (hosc : X.env.scope = osc := by rfl) (hN : X.N = N := by rfl) (hc : X.calm = true := by rfl) (hs : ∀ x, foldedSetIterable iter X.env x = pure x := by intro _; rfl)
    (hf : X.fn x = true ∨ X.env.scope.names.lookup x = some .local := by first | exact .inl rfl | exact .inr rfl | assumption) :
    PS X (.Assign [.Name x px] (.ListComp elt [⟨tg, iter, ifs, 0⟩] sc pos) spos) (tAsg (tComp wi ρ g tt te) (gName j)) := by
  intro pins s σ H D I h
  have hcells : ∀ y ∈ sc.names, y.2 = .free → ∃ c, X.env.cells.lookup y.1 = some c := fun y hy hf => I.ok.has y.1 (by show X.env.scope.names.lookup y.1 = _ ∨ X.env.scope.names.lookup y.1 = _; rw [hosc]; exact S.fre y hy hf)
  rw [exec_Assign_Name_used _ _ _ _ hsw]
  refine wpAny_bind (wpAny_standAt (wpAny_bind ?_))
  show wpAny (model X.prog X.w) X.A (do let _ ← comprehension (.ListComp elt [⟨tg, iter, ifs, 0⟩] sc pos) sc X.env (firstIterPos [⟨tg, iter, ifs, 0⟩] pos) (newList []) false (eval iter X.env) (some (assign (.Name x px) X.env))) _ X.xe s
  refine wpAny_bind (thn (Q := fun _ s' => SP X pins D .next s') (wpAny_comprehension_free (M := model X.prog X.w) (A := X.A) (E := X.xe) (e := .ListComp elt [⟨tg, iter, ifs, 0⟩] sc pos) (use := some (assign (.Name x px) X.env)) rfl hs (closure_pure hcells) S.kind S.own
    (thn (hi pins s σ H _ I h) fun v s1 h1 => thn h1 fun itv s2 h2 => ?_)) fun _ s' hq => wpAny_pure (wpAny_pure hq))
  obtain ⟨_, _, _, _, _, _, I2, _⟩ := id h2
  refine comp_block (Q := fun v H' => gName j v σ H' D.nx) (RR := fun acc C => compPost (model X.prog X.w) X.A X.xe (some (assign (.Name x px) X.env)) (fun _ s' => SP X pins D .next s') acc C) osc hosc N hN S hc hg ht he I2 h2 fun D' C H' s' mC I' nC fC q => ?_
  show wpAny _ _ (assign (.Name x px) X.env (.ref D')) _ _ s'
  refine wpAny_assign_Name (store_ok2 I' hNd hj hx (v := .ref D') rfl (fun s3 I3 ⟨a, sb, ha⟩ => ?_) hf)
  have hCa : C ≠ a := by
    rcases ha with e | e
    · rw [e]; exact fC.2.1
    · exact fun z => fC.2.2.2.2.1 x a e z.symm
  refine ⟨mC, nC.sameBut sb hCa, fun h' sb2 => ?_⟩
  obtain ⟨f0, f1, _, f3, f4, f5⟩ := fC
  exact ⟨_, H', I3.turned (t' := s3.toks) (fun b o hb e => (sb2.2 b hb).trans e) f0 f1 f3 f4 f5, q⟩
end
end L2

set_option Elab.async false
set_option linter.all false
set_option maxRecDepth 100000
set_option maxHeartbeats 4000000
/-! a text walked sign by sign, range with a step, all and any of bools, int of figures -/
namespace L2
open PySem PySem.Spec PyProof.Rows
def Its (x : Str) : It := ⟨fun i _ => i < x.cps.size, fun i H v H' => H' = H ∧ ∃ c, x.cps.toList[i]? = some c ∧ v = .str ⟨#[c]⟩, fun i _ => x.cps.size ≤ i⟩
theorem turn_str {P : Program} {w : World} {K : PySem.W.Frag} {tg : Expr} (x : Str) (t : Tok) (it : Addr) (ty : String) (hty : ty = "str_ascii_iterator" ∨ ty = "str_iterator") : Turn P w K tg (Its x) [it] it (fun i h => h.IsStrIter it ty x t i) where
  mem := by simp
  obj := fun i h st b hb => by
    have e : b = it := by simpa using hb
    subst e
    obtain ⟨o, e, c, d⟩ := st
    exact ⟨o, e, fun v z => by rw [d] at z; cases z⟩
  keep := fun i h h' st k => by
    obtain ⟨o, e, c, d⟩ := st
    exact ⟨o, k it (by simp) o e, c, d⟩
  item := by
    intro X hP hw hK hc i pins s σ H E I hf st hg
    subst hP hw hK
    obtain ⟨f0, f1, f2, f3, f4, f5⟩ := hf it (by simp)
    have hg' : i < x.cps.size := hg
    have hn : ["enumerate", "zip", "dict_itemiterator", "dict_reverseitemiterator", "odict_iterator", "itertools.zip_longest", "itertools.pairwise"].contains ty = false := by rcases hty with e | e <;> subst e <;> decide
    have fin : ∀ (v : Value) (h' : Heap) (tk : Nat), SignAt x i v → h'.IsStrIter it ty x t (i + 1) → (∀ b o, b ∉ [it] → s.heap.get? b = some o → h'.get? b = some o) → ∃ u, some v = some u ∧
        wpAny (model X.prog X.w) X.A (letOwnedTupleGo tg (.ref it) u) (fun _ s2 => ∃ y H', Inv X pins σ H' s2 ∧ RelV y u ∧ (Its x).yld i H y H' ∧ s2.heap.IsStrIter it ty x t (i + 1) ∧ ∀ b ∈ [it], H' b = none) E { s with heap := h', toks := tk } := fun v h' tk hv st' kk => by
      obtain ⟨c, u, hc', rfl⟩ := hv
      have I1 : Inv X pins σ H { s with heap := h', toks := tk } := I.turned (fun b o hb e => kk b o (by simpa using hb) e) f0 f1 f3 f4 f5
      obtain ⟨o, e, c', d⟩ := id st'
      exact ⟨_, rfl, go_of (s := { s with heap := h', toks := tk }) e c' d hn ⟨.str ⟨#[c]⟩, H, I1, ⟨u, rfl⟩, ⟨rfl, c, by rw [← hc']; simp, rfl⟩, st', fun b hb => (hf b hb).1⟩⟩
    rcases hty with e | e
    · subst e
      exact (Walks.strAscii (prog := X.prog) (w := X.w) (I.ok.hd hc) it x t).item i s _ _ hg' st fun v h' tk hv st' kk => fin v h' tk hv st' kk
    · subst e
      exact (Walks.strWide (prog := X.prog) (w := X.w) (I.ok.hd hc) it x t).item i s _ _ hg' st fun v h' tk hv st' kk => fin v h' tk hv st' kk
  done := by
    intro X hP hw hK hc i pins s σ H E I hf st hg
    subst hP hw hK
    obtain ⟨f0, f1, f2, f3, f4, f5⟩ := hf it (by simp)
    have hg' : x.cps.size ≤ i := hg
    rcases hty with e | e
    · subst e
      exact wpAny_pyNext_ascii_end (I.ok.hd hc) st (by simpa using hg') fun h' eb => ⟨rfl, I.turned (t' := s.toks) (fun b o hb e => eb b o hb e) f0 f1 f3 f4 f5⟩
    · subst e
      exact wpAny_pyNext_wide_end (I.ok.hd hc) st (by simpa using hg') fun h' eb => ⟨rfl, I.turned (t' := s.toks) (fun b o hb e => eb b o hb e) f0 f1 f3 f4 f5⟩
  self := fun _ _ _ _ _ st h => by
    rcases hty with e | e
    · subst e; exact wpAny_pyIter_striter_ascii st h
    · subst e; exact wpAny_pyIter_striter_wide st h
def Itr3 (lo c : Int) (n : Nat) : It := ⟨fun i _ => i < n, fun i H x H' => H' = H ∧ x = .int (lo + i * c), fun i _ => n ≤ i⟩
theorem turn_range3 {P : Program} {w : World} {K : PySem.W.Frag} {tg : Expr} (it : Addr) (lo c : Int) (n : Nat) : Turn P w K tg (Itr3 lo c n) [it] it (fun i h => IsRangeIter h it (lo + (i : Nat) * c) ((n : Int) - (i : Nat)) c) where
  mem := by simp
  obj := fun i h st b hb => by
    have e : b = it := by simpa using hb
    subst e
    exact ⟨_, st, fun v z => by
      have z' : Data.fields _ = Data.cell v := z
      cases z'⟩
  keep := fun i h h' st k => k it (by simp) _ st
  item := by
    intro X hP hw hK hc i pins s σ H E I hf st hg
    subst hP hw hK
    obtain ⟨f0, f1, f2, f3, f4, f5⟩ := hf it (by simp)
    refine (Walks.range (prog := X.prog) (w := X.w) (I.ok.hd hc) it lo c n).item i s _ _ hg st fun v h' tk hv st' kk => ?_
    obtain ⟨t, rfl⟩ := hv
    have I1 : Inv X pins σ H { s with heap := h', toks := tk } := I.turned (fun b o hb e => kk b o (by simpa using hb) e) f0 f1 f3 f4 f5
    exact ⟨_, rfl, go_of (s := { s with heap := h', toks := tk }) (n := "range_iterator") st' rfl rfl (by decide) ⟨.int (lo + i * c), H, I1, ⟨t, rfl⟩, ⟨rfl, rfl⟩, st', fun b hb => (hf b hb).1⟩⟩
  done := by
    intro X hP hw hK hc i pins s σ H E I hf st hg
    subst hP hw hK
    obtain ⟨f0, f1, f2, f3, f4, f5⟩ := hf it (by simp)
    exact wpAny_pyNext_range_end (I.ok.hd hc) st (by have : n ≤ i := hg; omega) fun h' eb => ⟨rfl, I.turned (t' := s.toks) (fun b o hb e => eb b o hb e) f0 f1 f3 f4 f5⟩
  self := fun _ _ _ _ _ st h => wpAny_pyIter_rangeiter st h
section
variable {X : Cx} {tg : Expr}
def iStr (tl : TE) : TI := fun σ H R => tl σ H fun v H1 => ∃ x, v = .str x ∧ R (Its x) H1
theorem pi_str {l : Expr} {tl : TE} (hl : PE X l tl) : PI X tg l (iStr tl) := by
  intro pins s σ H R I h
  refine thn (hl pins s σ H _ I h) fun v s1 ⟨y, H1, I1, r1, q1⟩ => ?_
  obtain ⟨x, e, q⟩ := q1
  subst e
  obtain ⟨t, rfl⟩ := r1
  have fp1 : ∀ b ∈ [s1.heap.objs.size], FpOk X pins H1 b := fun b hb => by
    have e : b = s1.heap.objs.size := by simpa using hb
    subst e
    exact I1.fpOk (Nat.le_refl _) (I1.hok.fresh (Nat.le_refl _))
  cases ha : x.cps.all (· < 128)
  · exact wpAny_pyIter_wide ha ⟨s1.heap.objs.size, [s1.heap.objs.size], _, _, H1, rfl, I1.kept (t' := s1.toks) fun b o e => Heap.get?_push_of_some _ e, turn_str x t _ _ (.inr rfl), ⟨_, Heap.get?_push_size _ rfl, rfl, rfl⟩, fp1, q⟩
  · exact wpAny_pyIter_ascii ha ⟨s1.heap.objs.size, [s1.heap.objs.size], _, _, H1, rfl, I1.kept (t' := s1.toks) fun b o e => Heap.get?_push_of_some _ e, turn_str x t _ _ (.inl rfl), ⟨_, Heap.get?_push_size _ rfl, rfl, rfl⟩, fp1, q⟩
/-- range(i, j, c), c positive and small -/
def iRng3 (ta : TA) : TI := fun σ H R => ta σ H fun vs H1 => ∃ i j c : Int, vs = [.int i, .int j, .int c] ∧ (-(2 ^ 60) ≤ i ∧ i < 2 ^ 60 ∧ -(2 ^ 60) ≤ j ∧ j < 2 ^ 60 ∧ 0 < c ∧ c < 1000) ∧ R (Itr3 i c (Builtin.Range.rangeSize i j c).toNat) H1
theorem pi_range3 {a b c : Expr} {ta : TA} {p pos : Pos} (hg : Gl X "range") (hm : X.mg "range" = none) (ha : PA X [a, b, c] ta) (hs : starEach [a, b, c] X.env = [(false, eval a X.env), (false, eval b X.env), (false, eval c X.env)] := by rfl)
    (hs2 : starEach [b, c] X.env = [(false, eval b X.env), (false, eval c X.env)] := by rfl) :
    PI X tg (.Call (.Name "range" p) [a, b, c] [] pos) (iRng3 ta) := by
  intro pins s σ H R I h
  refine Call_ (ld_blt I hg hm boot_range (PyProof.Rows.callWith_type1 (thn (ha pos pins s σ H _ I h) fun us s1 ⟨vs, H1, I1, r1, q1⟩ => ?_) (by rw [hs, hs2]) (by rw [hs2]; rfl)))
  obtain ⟨i, j, k, e, ⟨q1, q2, q3, q4, q5, q6⟩, q⟩ := q1
  subst e
  cases r1 with
  | cons r rr =>
  cases rr with
  | cons r' rr =>
  cases rr with
  | cons r'' rr =>
  cases rr
  obtain ⟨t, rfl⟩ := r
  obtain ⟨t', rfl⟩ := r'
  obtain ⟨t'', rfl⟩ := r''
  have hd0 : (0 : Int) ≤ (j - i - 1) / k ∨ ¬ i < j := by
    by_cases hij : i < j
    · exact .inl (Int.ediv_nonneg (by omega) (by omega))
    · exact .inr hij
  have hd1 : (j - i - 1) / k ≤ j - i - 1 ∨ ¬ i < j := by
    by_cases hij : i < j
    · exact .inl (Int.ediv_le_self _ (by omega))
    · exact .inr hij
  have hsz : 0 ≤ Builtin.Range.rangeSize i j k ∧ Builtin.Range.rangeSize i j k ≤ 2 ^ 61 := by
    unfold Builtin.Range.rangeSize
    rw [if_pos (by omega)]
    split
    · constructor <;> omega
    · constructor <;> omega
  refine call_range_3 (by omega) ?_ (.inl (PyProof.noPylong_small (by omega)))
  refine wpAny_pyIter_range (IsRange.new ..) ?_ ?_
  · unfold Builtin.Range.small
    simp only [Builtin.Range.rangeFitsLong, Bool.and_eq_true, Bool.or_eq_true, decide_eq_true_eq, beq_iff_eq, show k > 0 from q5, if_true]
    omega
  have I2 : Inv X pins σ H1 { s1 with heap := s1.heap.push { cls := .type "range", data := .fields #[.int i t, .int j t', .int k t''] }, toks := s1.toks } := I1.kept fun b o e => Heap.get?_push_of_some _ e
  refine ⟨(s1.heap.push { cls := .type "range", data := .fields #[.int i t, .int j t', .int k t''] }).objs.size, [(s1.heap.push { cls := .type "range", data := .fields #[.int i t, .int j t', .int k t''] }).objs.size], _, _, H1, rfl,
    I2.kept (t' := s1.toks) fun b o e => Heap.get?_push_of_some _ e, turn_range3 _ i k (Builtin.Range.rangeSize i j k).toNat, ?_, fun b hb => ?_, q⟩
  · have e1 : i + ((0 : Nat) : Int) * k = i := by simp
    have e2 : (((Builtin.Range.rangeSize i j k).toNat : Nat) : Int) - ((0 : Nat) : Int) = Builtin.Range.rangeSize i j k := by omega
    show IsRangeIter _ _ (i + ((0 : Nat) : Int) * k) ((((Builtin.Range.rangeSize i j k).toNat : Nat) : Int) - ((0 : Nat) : Int)) k
    rw [e1, e2]
    exact Heap.get?_push_size _ rfl
  · have e : b = (s1.heap.push { cls := .type "range", data := .fields #[.int i t, .int j t', .int k t''] }).objs.size := by simpa using hb
    subst e
    exact I2.fpOk (Nat.le_refl _) (I2.hok.fresh (Nat.le_refl _))
/-! ### all, any -/
theorem boolsAre_of {bs : List Bool} : ∀ {us : List Value}, Vals (bs.map V.bl) us → us = bs.map Value.bool := by
  induction bs with
  | nil => intro us r; cases r; rfl
  | cons b r ih =>
    intro us h
    cases h with
    | cons h1 h2 => cases h1; rw [ih h2]; rfl
theorem call_all (hc : X.calm = true) : CallR X (.builtin "all") (fun xs H Q => ∃ (p : Addr) (bs : List Bool), xs = [.ref p] ∧ SqL X.K H p (bs.map V.bl) ∧ Q (.bl (bs.all id)) H) := by
  intro pins s σ H xs us Q I r h
  obtain ⟨p, bs, rfl, hq, q⟩ := h
  obtain ⟨u, rfl, ru⟩ := vals1 r
  cases ru
  obtain ⟨its, r', pl, hz⟩ := I.list hq
  obtain rfl := boolsAre_of r'
  have hlt : p < s.heap.objs.size := by obtain ⟨_, _, e, _⟩ := pl; exact Heap.lt_size e
  refine call_all_walk (wpAny_pyIter_list pl.isList ?_)
  refine ⟨s.heap.objs.size, [s.heap.objs.size, p], [s.heap.objs.size], (bs.map Value.bool).toArray.size, _, _, fun i => (bs[i]?).getD true, rfl, Walks.list (A := X.A.in1) (I.ok.hd hc) _ p (Nat.ne_of_lt hlt) (bs.map Value.bool).toArray,
    ⟨⟨_, Heap.get?_push_size _ rfl, rfl, rfl⟩, pl.isList.push _⟩, fun i v s' Q' E' hP hQ => ?_, fun h' tk hk => ?_⟩
  · have hP' : (bs.map Value.bool)[i]? = some v := by simpa using hP
    rw [List.getElem?_map] at hP'
    obtain ⟨b, e, rfl⟩ := Option.map_eq_some_iff.mp hP'
    simp only [e, Option.getD_some] at hQ
    exact wpAny_truthy_bool hQ
  · have e : ((List.range (bs.map Value.bool).toArray.size).all fun i => (bs[i]?).getD true) = bs.all id := by
      rw [List.size_toArray, List.length_map]; exact LSm.range_all bs
    rw [e]
    exact ⟨.bl _, H, I.kept (LSm.kept_iter hk), rfl, q⟩
theorem call_any (hc : X.calm = true) : CallR X (.builtin "any") (fun xs H Q => ∃ (p : Addr) (bs : List Bool), xs = [.ref p] ∧ SqL X.K H p (bs.map V.bl) ∧ Q (.bl (bs.any id)) H) := by
  intro pins s σ H xs us Q I r h
  obtain ⟨p, bs, rfl, hq, q⟩ := h
  obtain ⟨u, rfl, ru⟩ := vals1 r
  cases ru
  obtain ⟨its, r', pl, hz⟩ := I.list hq
  obtain rfl := boolsAre_of r'
  have hlt : p < s.heap.objs.size := by obtain ⟨_, _, e, _⟩ := pl; exact Heap.lt_size e
  refine call_any_walk (wpAny_pyIter_list pl.isList ?_)
  refine ⟨s.heap.objs.size, [s.heap.objs.size, p], [s.heap.objs.size], (bs.map Value.bool).toArray.size, _, _, fun i => (bs[i]?).getD false, rfl, Walks.list (A := X.A.in1) (I.ok.hd hc) _ p (Nat.ne_of_lt hlt) (bs.map Value.bool).toArray,
    ⟨⟨_, Heap.get?_push_size _ rfl, rfl, rfl⟩, pl.isList.push _⟩, fun i v s' Q' E' hP hQ => ?_, fun h' tk hk => ?_⟩
  · have hP' : (bs.map Value.bool)[i]? = some v := by simpa using hP
    rw [List.getElem?_map] at hP'
    obtain ⟨b, e, rfl⟩ := Option.map_eq_some_iff.mp hP'
    simp only [e, Option.getD_some] at hQ
    exact wpAny_truthy_bool hQ
  · have e : ((List.range (bs.map Value.bool).toArray.size).any fun i => (bs[i]?).getD false) = bs.any id := by
      rw [List.size_toArray, List.length_map]; exact LSm.range_any bs
    rw [e]
    exact ⟨.bl _, H, I.kept (LSm.kept_iter hk), rfl, q⟩
/-! ### int of a text -/
theorem call_int_text : CallR X (.type "int") (fun xs H Q => ∃ (x : Str) (n : Int), xs = [.str x] ∧ intText? x = some n ∧ x.length ≤ 640 ∧ Q (.int n) H) := by
  intro pins s σ H xs us Q I r h
  obtain ⟨x, n, rfl, hx, hl, q⟩ := h
  obtain ⟨u, rfl, t, rfl⟩ := vals1 r
  exact PySem.W.KIN.call_text hx hl ⟨.int n, H, I.tok _, ⟨_, rfl⟩, q⟩
/-! ### the rules that name K, for a block -/
theorem sl_listK {K : PySem.W.Frag} (h : X.K = K) : SlR X (rSlL K) := h ▸ sl_list
theorem sl_tupK {K : PySem.W.Frag} (h : X.K = K) : SlR X (rSlT K) := h ▸ sl_tup
theorem ix_listK {K : PySem.W.Frag} (h : X.K = K) : IxR X (rIxL K) := h ▸ ix_list
theorem ix_tupK {K : PySem.W.Frag} (h : X.K = K) : IxR X (rIxT K) := h ▸ ix_tup
theorem op_in_seqK {K : PySem.W.Frag} (h : X.K = K) : OpR X (compareOp .In) (rIn K false) := h ▸ op_in_seq
theorem op_notin_seqK {K : PySem.W.Frag} (h : X.K = K) : OpR X (compareOp .NotIn) (rIn K true) := h ▸ op_notIn_seq
theorem op_catAK {K : PySem.W.Frag} (h : X.K = K) : OpR X (binaryOp .Add) (rCatA K) := h ▸ op_catA
theorem call_len_seqK {K : PySem.W.Frag} (h : X.K = K) : CallR X (.builtin "len") (fun xs H Q => ∃ p ys, xs = [.ref p] ∧ (SqL K H p ys ∨ SqT K H p ys) ∧ Q (.int ys.length) H) := h ▸ call_len_seq
theorem call_tuple_ofK {K : PySem.W.Frag} (h : X.K = K) : CallR X (.type "tuple") (fun xs H Q => ∃ p ys, xs = [.ref p] ∧ ((SqL K H p ys ∧ ∀ l, H l = none → Q (.ref l) (upd H l (.tup ys))) ∨ (SqT K H p ys ∧ Q (.ref p) H))) := h ▸ call_tuple_of
theorem call_isinstK {K : PySem.W.Frag} (h : X.K = K) : CallR X (.builtin "isinstance") (fun xs H Q => ∃ x t T b, xs = [x, .ty T] ∧ TyOf K H x t ∧ PySem.W.kitOne K t (.type T) = some b ∧ Q (.bl b) H) := h ▸ call_isinst
theorem pg_tupK {K : PySem.W.Frag} {pos : Pos} {es : List Expr} {k : Nat} {t : TGs} {n : Nat} (hK : X.K = K) (hc : X.calm = true) (h : PGs X es t) (hn : (assignEach es X.env).length = n := by rfl) (hst : (assignEach es X.env).findIdx? (·.1) = none := by rfl) : PG X (.Tuple es k pos) (gTup K n t) := hK ▸ pg_tup hc h hn hst
end
end L2

set_option Elab.async false
set_option linter.all false
set_option maxRecDepth 100000
set_option maxHeartbeats 4000000
/-! rows as data, how they stand in the heap, their words -/
namespace L2
open PySem PySem.Spec PyProof.Rows
def PairAt (H : Hp) (v : V) (d : Str × Str) : Prop := ∃ p, v = .ref p ∧ H p = some (.tup [.str d.1, .str d.2]) ∧ NameOk d.1 ∧ NameOk d.2
abbrev Pairs (H : Hp) : List V → List (Str × Str) → Prop := Paired (PairAt H)
theorem PairAt.mono {H H' : Hp} (s : Tups H H') {v : V} {t : Str × Str} (h : PairAt H v t) : PairAt H' v t := by
  obtain ⟨p, e, h, o⟩ := h
  exact ⟨p, e, s p _ h, o⟩
theorem Pairs.mono {H H' : Hp} (s : Tups H H') {vs : List V} {ts : List (Str × Str)} (h : Pairs H vs ts) : Pairs H' vs ts := Paired.mapP h fun _ _ q => q.mono s
theorem Pairs.ok {H : Hp} : ∀ {vs : List V} {ts : List (Str × Str)}, Pairs H vs ts → ∀ p ∈ ts, NameOk p.1 ∧ NameOk p.2
  | _, _, .nil, p, hp => by simp at hp
  | _, _, .cons ⟨_, _, _, o⟩ t, p, hp => by
    rcases List.mem_cons.mp hp with z | z
    · rw [z]; exact o
    · exact Pairs.ok t p z
structure PairsAt (H : Hp) (t : Addr) (ps : List (Str × Str)) : Prop where
  ex : ∃ vs, H t = some (.tup vs) ∧ Pairs H vs ps
  hi : ps.length ≤ 6
theorem PairsAt.mono {H H' : Hp} (s : Tups H H') {t : Addr} {ts : List (Str × Str)} (h : PairsAt H t ts) : PairsAt H' t ts := by
  obtain ⟨⟨vs, h1, h2⟩, hi⟩ := h
  exact ⟨⟨vs, s t _ h1, h2.mono s⟩, hi⟩
def pairW : List (Str × Str) → List Str
  | [] => []
  | (g, o) :: r => g :: "as" :: o :: pairW r
theorem pairW_snoc (g o : Str) : ∀ ps, pairW (ps ++ [(g, o)]) = pairW ps ++ [g, "as", o]
  | [] => rfl
  | (a, b) :: r => by
    show a :: "as" :: b :: pairW (r ++ [(g, o)]) = _
    rw [pairW_snoc g o r]
    rfl
theorem pairW_len : ∀ ps, (pairW ps).length = 3 * ps.length
  | [] => rfl
  | (a, b) :: r => by
    show (pairW r).length + 1 + 1 + 1 = _
    rw [pairW_len r]
    simp only [List.length_cons]; omega
theorem pairW_ok : ∀ {ps : List (Str × Str)}, (∀ p ∈ ps, NameOk p.1 ∧ NameOk p.2) → ∀ x ∈ pairW ps, WordOk x
  | [], _, x, hx => by simp [pairW] at hx
  | (a, b) :: r, h, x, hx => by
    have hx' : x ∈ a :: "as" :: b :: pairW r := hx
    have h0 := h (a, b) List.mem_cons_self
    rcases List.mem_cons.mp hx' with z | z
    · rw [z]; exact h0.1.word
    · rcases List.mem_cons.mp z with z | z
      · rw [z]; decide +kernel
      · rcases List.mem_cons.mp z with z | z
        · rw [z]; exact h0.2.word
        · exact pairW_ok (fun p hp => h p (List.mem_cons_of_mem _ hp)) x z
def optV : Option Str → V
  | none => .non
  | some x => .str x
def whenW : Option Str → List Str
  | none => []
  | some x => ["when", x]
def OptOk (o : Option Str) : Prop := ∀ x, o = some x → NameOk x
theorem whenW_ok {o : Option Str} (h : OptOk o) : ∀ x ∈ whenW o, WordOk x := by
  cases o with
  | none => intro x hx; simp [whenW] at hx
  | some y =>
    intro x hx
    have hx' : x ∈ (["when", y] : List Str) := hx
    rcases List.mem_cons.mp hx' with z | z
    · rw [z]; decide +kernel
    · rw [List.mem_singleton.mp z]; exact (h y rfl).word
theorem whenW_len (o : Option Str) : (whenW o).length ≤ 2 := by
  cases o with
  | none => exact Nat.zero_le _
  | some x => exact Nat.le_refl _
structure SumOk (ts : List (Int × Th)) : Prop where
  lo : 1 ≤ ts.length
  hi : ts.length ≤ 6
  th : ∀ p ∈ ts, ThOk p.2
  sg : ∀ p ∈ ts, p.1 = 1 ∨ p.1 = -1
  hd : ∀ p, ts.head? = some p → p.1 = 1
inductive Rw where
  | bring (p : Str) (ps : List (Str × Str))
  | give (o g : Str)
  | set (o : Str) (ts : List (Int × Th))
  | take (o : Str)
  | say (ts : List (Int × Th)) (w : Option Str)
  | need (ts : List (Int × Th))
  | ask (p : Str) (w : Option Str)
  | part (p : Str)
  | doo (p : Str)
def rowW : Rw → List Str
  | .bring p ps => "bring" :: p :: pairW ps
  | .give o g => ["give", o, "as", g]
  | .set o ts => "set" :: o :: "=" :: sumW ts
  | .take o => ["take", o]
  | .say ts w => "say" :: (sumW ts ++ whenW w)
  | .need ts => "need" :: sumW ts
  | .ask p w => "ask" :: p :: whenW w
  | .part p => ["part", p]
  | .doo p => ["do", p]
def RwOk : Rw → Prop
  | .bring p ps => NameOk p ∧ ps.length ≤ 6 ∧ ∀ q ∈ ps, NameOk q.1 ∧ NameOk q.2
  | .give o g => NameOk o ∧ NameOk g
  | .set o ts => NameOk o ∧ SumOk ts
  | .take o => NameOk o
  | .say ts w => SumOk ts ∧ OptOk w
  | .need ts => SumOk ts
  | .ask p w => NameOk p ∧ OptOk w
  | .part p => NameOk p
  | .doo p => NameOk p
def RowAt (H : Hp) (r : Addr) : Rw → Prop
  | .bring p ps => ∃ t, H r = some (.tup [.str "bring", .str p, .ref t]) ∧ PairsAt H t ps
  | .give o g => H r = some (.tup [.str "give", .str o, .str g])
  | .set o ts => ∃ t, H r = some (.tup [.str "set", .str o, .ref t]) ∧ TermsAt H t ts
  | .take o => H r = some (.tup [.str "take", .str o])
  | .say ts w => ∃ t, H r = some (.tup [.str "say", .ref t, optV w]) ∧ TermsAt H t ts
  | .need ts => ∃ t, H r = some (.tup [.str "need", .ref t]) ∧ TermsAt H t ts
  | .ask p w => H r = some (.tup [.str "ask", .str p, optV w])
  | .part p => H r = some (.tup [.str "part", .str p])
  | .doo p => H r = some (.tup [.str "do", .str p])
theorem RowAt.mono {H H' : Hp} (s : Tups H H') {r : Addr} {rw : Rw} (h : RowAt H r rw) : RowAt H' r rw := by
  cases rw with
  | bring p ps => obtain ⟨t, h1, h2⟩ := h; exact ⟨t, s _ _ h1, h2.mono s⟩
  | give o g => exact s _ _ h
  | set o ts => obtain ⟨t, h1, h2⟩ := h; exact ⟨t, s _ _ h1, h2.mono s⟩
  | take o => exact s _ _ h
  | say ts w => obtain ⟨t, h1, h2⟩ := h; exact ⟨t, s _ _ h1, h2.mono s⟩
  | need ts => obtain ⟨t, h1, h2⟩ := h; exact ⟨t, s _ _ h1, h2.mono s⟩
  | ask p w => exact s _ _ h
  | part p => exact s _ _ h
  | doo p => exact s _ _ h
theorem wordsOk_cons {x : Str} {ws : List Str} (h : WordOk x) (hw : ∀ y ∈ ws, WordOk y) : ∀ y ∈ x :: ws, WordOk y := fun y hy => by
  rcases List.mem_cons.mp hy with z | z
  · rw [z]; exact h
  · exact hw y z
theorem wordsOk_app {vs ws : List Str} (h : ∀ y ∈ vs, WordOk y) (hw : ∀ y ∈ ws, WordOk y) : ∀ y ∈ vs ++ ws, WordOk y := fun y hy => by
  rcases List.mem_append.mp hy with z | z
  · exact h y z
  · exact hw y z
theorem wordsOk_nil : ∀ y ∈ ([] : List Str), WordOk y := fun y hy => by simp at hy
structure WordsOk (ws : List Str) : Prop where
  ok : ∀ x ∈ ws, WordOk x
  lo : 2 ≤ ws.length
  hi : ws.length ≤ 20
theorem RwOk.words {rw : Rw} (h : RwOk rw) : WordsOk (rowW rw) := by
  cases rw with
  | bring p ps =>
    obtain ⟨h1, h2, h3⟩ := h
    have := pairW_len ps
    refine ⟨wordsOk_cons (by decide +kernel) (wordsOk_cons h1.word (pairW_ok h3)), ?_, ?_⟩ <;> simp only [rowW, List.length_cons] <;> omega
  | give o g =>
    refine ⟨wordsOk_cons (by decide +kernel) (wordsOk_cons h.1.word (wordsOk_cons (by decide +kernel) (wordsOk_cons h.2.word wordsOk_nil))), ?_, ?_⟩ <;> simp [rowW]
  | set o ts =>
    have := sumW_len h.2.lo
    have := h.2.hi
    refine ⟨wordsOk_cons (by decide +kernel) (wordsOk_cons h.1.word (wordsOk_cons (by decide +kernel) (sumW_ok h.2.th))), ?_, ?_⟩ <;> simp only [rowW, List.length_cons] <;> omega
  | take o => refine ⟨wordsOk_cons (by decide +kernel) (wordsOk_cons (NameOk.word h) wordsOk_nil), ?_, ?_⟩ <;> simp [rowW]
  | say ts w =>
    have := sumW_len h.1.lo
    have := h.1.hi
    have := h.1.lo
    have := whenW_len w
    refine ⟨wordsOk_cons (by decide +kernel) (wordsOk_app (sumW_ok h.1.th) (whenW_ok h.2)), ?_, ?_⟩ <;> simp only [rowW, List.length_cons, List.length_append] <;> omega
  | need ts =>
    have h' : SumOk ts := h
    have := sumW_len h'.lo
    have := h'.hi
    have := h'.lo
    refine ⟨wordsOk_cons (by decide +kernel) (sumW_ok h'.th), ?_, ?_⟩ <;> simp only [rowW, List.length_cons] <;> omega
  | ask p w =>
    have := whenW_len w
    refine ⟨wordsOk_cons (by decide +kernel) (wordsOk_cons h.1.word (whenW_ok h.2)), ?_, ?_⟩ <;> simp only [rowW, List.length_cons] <;> omega
  | part o => refine ⟨wordsOk_cons (by decide +kernel) (wordsOk_cons (NameOk.word h) wordsOk_nil), ?_, ?_⟩ <;> simp [rowW]
  | doo o => refine ⟨wordsOk_cons (by decide +kernel) (wordsOk_cons (NameOk.word h) wordsOk_nil), ?_, ?_⟩ <;> simp [rowW]
theorem weight_ok {ws : List Str} (h : WordsOk ws) : (ws.map (·.length)).sum ≤ 61 * ws.length := by
  have : ∀ (l : List Str), (∀ x ∈ l, WordOk x) → (l.map (·.length)).sum ≤ 61 * l.length := by
    intro l
    induction l with
    | nil => intro _; simp
    | cons x r ih =>
      intro hl
      have h1 := (hl x List.mem_cons_self).len
      have h2 := ih fun y hy => hl y (List.mem_cons_of_mem _ hy)
      simp only [List.map_cons, List.sum_cons, List.length_cons]; omega
  exact this ws h.ok
theorem join_snoc (sep a : Str) : ∀ l : List Str, l ≠ [] → Str.join sep (l ++ [a]) = Str.join sep l ++ sep ++ a
  | [], h => absurd rfl h
  | [x], _ => rfl
  | x :: y :: r, _ => by
    have ih := join_snoc sep a (y :: r) (by simp)
    show x ++ sep ++ Str.join sep (y :: r ++ [a]) = x ++ sep ++ Str.join sep (y :: r) ++ sep ++ a
    rw [ih]
    apply str_ext
    show (x.cps ++ sep.cps ++ ((Str.join sep (y :: r)).cps ++ sep.cps ++ a.cps)).toList = (x.cps ++ sep.cps ++ (Str.join sep (y :: r)).cps ++ sep.cps ++ a.cps).toList
    simp
theorem join_app (sep : Str) (vs : List Str) (hv : vs ≠ []) : ∀ us : List Str, us ≠ [] → Str.join sep (us ++ vs) = Str.join sep us ++ sep ++ Str.join sep vs
  | [], h => absurd rfl h
  | [x], _ => by
    cases vs with
    | nil => exact absurd rfl hv
    | cons v r => rfl
  | x :: y :: r, _ => by
    have ih := join_app sep vs hv (y :: r) (by simp)
    show x ++ sep ++ Str.join sep (y :: r ++ vs) = x ++ sep ++ Str.join sep (y :: r) ++ sep ++ Str.join sep vs
    rw [ih]
    apply str_ext
    show (x.cps ++ sep.cps ++ ((Str.join sep (y :: r)).cps ++ sep.cps ++ (Str.join sep vs).cps)).toList = (x.cps ++ sep.cps ++ (Str.join sep (y :: r)).cps ++ sep.cps ++ (Str.join sep vs).cps).toList
    simp
theorem blank : (" " : Str) = ⟨#[32]⟩ := by decide +kernel
theorem split_words {ws : List Str} (h : WordsOk ws) : Txt.split (Str.join " " ws) " " = ws := by
  rw [blank]
  exact split_join (by intro z; have := h.lo; rw [z] at this; simp at this) fun y hy => (h.ok y hy).nb
theorem join_len {ws : List Str} (h : WordsOk ws) : (Str.join " " ws).length ≤ 1300 := by
  have h1 := StrLaws.join_length_le " " ws
  have h2 := weight_ok h
  have h3 := h.hi
  have hbl : (" " : Str).length = 1 := by decide +kernel
  rw [hbl] at h1
  omega

/-! ### signs -/
theorem let_mem (c : Nat) : decide (c ∈ ("abcdefghijklmnopqrstuvwxyz" : Str).cps.toList) = isLet c := by
  have e : ("abcdefghijklmnopqrstuvwxyz" : Str).cps.toList = [97, 98, 99, 100, 101, 102, 103, 104, 105, 106, 107, 108, 109, 110, 111, 112, 113, 114, 115, 116, 117, 118, 119, 120, 121, 122] := by decide +kernel
  rw [e]
  unfold isLet
  rw [Bool.eq_iff_iff]
  simp only [decide_eq_true_eq, Bool.and_eq_true, List.mem_cons, List.not_mem_nil, or_false]
  omega
theorem fig_mem (c : Nat) : decide (c ∈ ("0123456789" : Str).cps.toList) = isFig c := by
  have e : ("0123456789" : Str).cps.toList = [48, 49, 50, 51, 52, 53, 54, 55, 56, 57] := by decide +kernel
  rw [e]
  unfold isFig
  rw [Bool.eq_iff_iff]
  simp only [decide_eq_true_eq, Bool.and_eq_true, List.mem_cons, List.not_mem_nil, or_false]
  omega
theorem in_let (c : Nat) : (!(Builtin.Str.occurrences ("abcdefghijklmnopqrstuvwxyz" : Str) ⟨#[c]⟩ 0 ("abcdefghijklmnopqrstuvwxyz" : Str).length 1).isEmpty) = isLet c := by
  rw [StrLaws.found_one]; exact let_mem c
theorem in_fig (c : Nat) : (!(Builtin.Str.occurrences ("0123456789" : Str) ⟨#[c]⟩ 0 ("0123456789" : Str).length 1).isEmpty) = isFig c := by
  rw [StrLaws.found_one]; exact fig_mem c
/-! ### numbers' texts -/
def isNumL (l : List Nat) : Bool := decide (1 ≤ l.length) && decide (l.length ≤ 60) && !(decide (l.head? = some 48) && !decide (l = [48])) && l.all isFig
theorem digits_head : ∀ (m : Nat) (c : Char) (r : List Char), Nat.toDigits 10 m = c :: r → c = '0' → r = [] := by
  intro m
  induction m using Nat.strongRecOn with
  | _ m ih =>
    intro c r h hc
    by_cases hm : m < 10
    · rw [Nat.toDigits_of_lt_base hm] at h
      cases h
      rfl
    · rw [Nat.toDigits_of_base_le (by decide) (by omega)] at h
      cases e : Nat.toDigits 10 (m / 10) with
      | nil =>
        have := PySem.W.KIN.val_back (m / 10)
        rw [e] at this
        simp [NumText.digitsVal] at this
        omega
      | cons d q =>
        rw [e] at h
        have h' : d :: (q ++ [(m % 10).digitChar]) = c :: r := h
        cases h'
        have hq := ih (m / 10) (by omega) c q e hc
        have hv := PySem.W.KIN.val_back (m / 10)
        rw [e, hq, hc] at hv
        have : (0 : Nat) = m / 10 := by simpa [NumText.digitsVal] using hv
        omega
theorem num_isNum {n : Int} (h : ThOk (.num n)) : isNumL (thS (.num n)).cps.toList = true := by
  obtain ⟨e, hl⟩ := num_text h.1 h.2
  have e' : (thS (.num n)).cps.toList = (Nat.toDigits 10 n.toNat).map Char.toNat := e
  rw [e']
  have hpos : Nat.toDigits 10 n.toNat ≠ [] := by
    intro z
    by_cases hm : n.toNat < 10
    · rw [Nat.toDigits_of_lt_base hm] at z; simp at z
    · rw [Nat.toDigits_of_base_le (by decide) (by omega)] at z; simp at z
  have hpos' : 1 ≤ (Nat.toDigits 10 n.toNat).length := by
    cases q : Nat.toDigits 10 n.toNat with
    | nil => exact absurd q hpos
    | cons a b => simp
  unfold isNumL
  simp only [Bool.and_eq_true, decide_eq_true_eq, List.length_map, List.all_eq_true, Bool.not_eq_true', Bool.and_eq_false_iff, decide_eq_false_iff_not]
  refine ⟨⟨⟨hpos', hl⟩, ?_⟩, fun c hc => ?_⟩
  · by_cases hz : ((Nat.toDigits 10 n.toNat).map Char.toNat).head? = some 48
    · refine .inr ?_
      cases q : Nat.toDigits 10 n.toNat with
      | nil => exact absurd q hpos
      | cons a b =>
        rw [q] at hz
        have ha : a.toNat = 48 := by simpa using hz
        have ha' : a = '0' := Char.toNat_inj.mp (by rw [ha]; decide)
        rw [digits_head _ _ _ q ha', ha']
        simp
    · exact .inl hz
  · have := digit_range _ c hc
    unfold isFig
    simp; omega
theorem name_notNum {x : Str} (h : NameOk x) : isNumL x.cps.toList = false := by
  unfold NameOk at h
  cases e : x.cps.toList with
  | nil => rw [e] at h; exact absurd (show false = true from h) Bool.false_ne_true
  | cons c r =>
    rw [e] at h
    have h' : (isLet c && r.all isSg && decide (r.length ≤ 7)) = true := h
    simp only [Bool.and_eq_true, decide_eq_true_eq] at h'
    unfold isNumL
    have hf : isFig c = false := by
      have := h'.1.1
      unfold isLet at this
      unfold isFig
      simp only [Bool.and_eq_true, decide_eq_true_eq] at this
      simp; omega
    rw [List.all_cons, hf]
    simp
theorem num_reads {n : Int} (h : ThOk (.num n)) : intText? (thS (.num n)) = some n ∧ (thS (.num n)).length ≤ 640 := by
  obtain ⟨e, hl⟩ := num_text h.1 h.2
  have e' : (thS (.num n)).cps.toList = (Nat.toDigits 10 n.toNat).map Char.toNat := e
  have hlen : (thS (.num n)).length = (thS (.num n)).cps.toList.length := by simp [Str.length]
  have hlen' : (thS (.num n)).length ≤ 60 := by rw [hlen, e', List.length_map]; exact hl
  have hne : (thS (.num n)).cps.toList ≠ [] := by
    have := num_isNum h
    intro z
    rw [z] at this
    exact absurd this (by decide)
  have hd : NumText.AllDigits (thS (.num n)).cps.toList := fun c hc => by
    rw [e'] at hc
    exact digit_range _ c hc
  have h3 := PySem.intText_digits hd hne (by omega)
  rw [e', PySem.W.KIN.val_back] at h3
  exact ⟨by rw [h3]; congr 1; have := h.1; omega, by omega⟩
end L2

set_option Elab.async false
set_option linter.all false
set_option maxRecDepth 100000
set_option maxHeartbeats 4000000
/-! enumerate over a list; a try whose body raises nothing -/
namespace L2
open PySem PySem.Spec PyProof.Rows
/-- enumerate over the list at a: a new pair each turn -/
def ItEl (K : PySem.W.Frag) (a : Addr) : It :=
  ⟨fun i H => ∃ xs x, SqL K H a xs ∧ xs[i]? = some x,
   fun i H x H' => ∃ p v, (∀ xs, SqL K H a xs → xs[i]? = some v) ∧ H p = none ∧ x = .ref p ∧ H' = upd H p (.tup [.int i, v]),
   fun i H => ∃ xs, SqL K H a xs ∧ xs.length = i⟩
theorem turn_enumL {P : Program} {w : World} {K : PySem.W.Frag} {elts : List Expr} {k : Nat} {pos : Pos} (a e it : Addr) (hei : e ≠ it) :
    Turn P w K (.Tuple elts k pos) (ItEl K a) [e, it] e (fun i h => (∃ old, IsEnum h e it i old) ∧ h.IsListIter it a i) where
  mem := by simp
  obj := fun i h st b hb => by
    obtain ⟨⟨old, he⟩, o, ho, hc, hd⟩ := st
    rcases List.mem_cons.mp hb with z | hb
    · subst z
      exact ⟨_, he, fun v z => by
        have z' : Data.fields _ = Data.cell v := z
        cases z'⟩
    · obtain z := List.mem_singleton.mp hb
      subst z
      exact ⟨o, ho, fun v z => by rw [hd] at z; cases z⟩
  keep := fun i h h' st kk => by
    obtain ⟨⟨old, he⟩, o, ho, r⟩ := st
    exact ⟨⟨old, kk e (by simp) _ he⟩, o, kk it (by simp) o ho, r⟩
  item := by
    intro X hP hw hK hc i pins s σ H E I hf st hg
    subst hP hw hK
    obtain ⟨xs, x, hq, hx⟩ := hg
    obtain ⟨its, rv, p, hz⟩ := I.list hq
    obtain ⟨u, hu, ru⟩ := rv.get hx
    obtain ⟨⟨old, he⟩, hit⟩ := st
    have ht : s.heap.IsList a its.toArray := p.isList
    have hai : a ≠ it := by
      intro z
      obtain ⟨o, ho, hc1, _⟩ := id hit
      obtain ⟨o2, ho2, hc2, _⟩ := id ht
      rw [z, ho] at ho2
      cases ho2
      rw [hc1] at hc2
      exact absurd hc2 (by decide)
    have hae : a ≠ e := by
      intro z
      obtain ⟨o2, ho2, hc2, _⟩ := id ht
      have he' := he
      unfold IsEnum at he'
      rw [z, he'] at ho2
      cases ho2
      exact absurd (show Value.type "enumerate" = Value.type "list" from hc2) (by decide)
    have D := Draws.list (prog := X.prog) (w := X.w) (A := X.A.in1) (show X.A.in1.handled = none from I.ok.hd hc) it a hai its.toArray
    have hef : e ∉ [it, a] := by
      intro z
      rcases List.mem_cons.mp z with z | z
      · exact hei z
      · exact hae (List.mem_singleton.mp z).symm
    have W := WalksT.enumerateD D e hei hef (by simp)
    have hlt : i < its.toArray.size := by
      have h1 := (List.getElem?_eq_some_iff.mp hu).1
      simpa using h1
    refine W.item i s _ _ hlt ⟨⟨old, he⟩, hit, ht⟩ fun T vals h' tk hP hT hTup hM hk => ?_
    obtain ⟨t, y, hy, rfl⟩ := hP
    have ey : y = u := by
      have : its[i]? = some y := by simpa using hy
      rw [hu] at this
      exact (Option.some.inj this).symm
    subst ey
    have I1 : Inv X pins σ H { s with heap := h', toks := tk } := I.turnedL (ch := [e, it]) hk hf
    have hHT : H T = none := I.hok.fresh hT
    have fT : FpOk X pins H T := I.fpOk hT hHT
    refine ⟨_, rfl, ?_⟩
    refine W.go elts k pos i T { s with heap := h', toks := tk } _ _ hM fun h2 st2 hk2 => ?_
    have I2' := I1.turnedL (h' := h2) (t' := tk) (ch := [e, it]) hk2 hf
    have I2 : Inv X pins σ H { s with heap := h2, toks := tk } := I2'
    have hT2 : h2.IsTuple T #[.int i t, y] := by
      obtain ⟨o, ho, r⟩ := hTup
      exact ⟨o, hk2 T o (W.apart i T h' hM) ho, r⟩
    have I3 : Inv X pins σ (upd H T (.tup [.int i, x])) { s with heap := h2, toks := tk } :=
      I2.track fT ⟨by show 2 ≤ sizeLine; decide, [.int i t, y], .cons ⟨t, rfl⟩ (.cons ru .nil), hT2⟩
    refine ⟨.ref T, _, I3, rfl, ⟨T, x, fun ys hy' => by rw [I.list_inj hy' hq]; exact hx, hHT, rfl, rfl⟩, ⟨by simpa using st2.1, st2.2.1⟩, fun b hb => ?_⟩
    rw [upd_ne (fun z => W.apart i T h' hM (by rw [← z]; exact hb))]
    exact (hf b hb).1
  done := by
    intro X hP hw hK hc i pins s σ H E I hf st hg
    subst hP hw hK
    obtain ⟨xs, hq, hx⟩ := hg
    obtain ⟨its, rv, p, hz⟩ := I.list hq
    obtain ⟨⟨old, he⟩, hit⟩ := st
    have ht : s.heap.IsList a its.toArray := p.isList
    have hai : a ≠ it := by
      intro z
      obtain ⟨o, ho, hc1, _⟩ := id hit
      obtain ⟨o2, ho2, hc2, _⟩ := id ht
      rw [z, ho] at ho2
      cases ho2
      rw [hc1] at hc2
      exact absurd hc2 (by decide)
    have hae : a ≠ e := by
      intro z
      obtain ⟨o2, ho2, hc2, _⟩ := id ht
      have he' := he
      unfold IsEnum at he'
      rw [z, he'] at ho2
      cases ho2
      exact absurd (show Value.type "enumerate" = Value.type "list" from hc2) (by decide)
    have D := Draws.list (prog := X.prog) (w := X.w) (A := X.A.in1) (show X.A.in1.handled = none from I.ok.hd hc) it a hai its.toArray
    have hef : e ∉ [it, a] := by
      intro z
      rcases List.mem_cons.mp z with z | z
      · exact hei z
      · exact hae (List.mem_singleton.mp z).symm
    have W := WalksT.enumerateD D e hei hef (by simp)
    have hl := rv.length
    have hn : i = its.toArray.size := by simp; omega
    refine W.done s _ _ ⟨⟨old, by rw [← hn]; exact he⟩, by rw [← hn]; exact hit, ht⟩ fun h' tk hk => ⟨rfl, ?_⟩
    exact I.turnedL (ch := [e, it]) hk hf
  self := fun _ _ _ _ _ st h => by
    obtain ⟨⟨old, he⟩, _⟩ := st
    exact wpAny_pyIter_enum he h
section
variable {X : Cx} {elts : List Expr} {k : Nat} {tpos : Pos}
def iEnumL (K : PySem.W.Frag) (ta : TA) : TI := fun σ H R => ta σ H fun vs H1 => ∃ a, vs = [.ref a] ∧ (∃ xs, SqL K H1 a xs) ∧ R (ItEl K a) H1
theorem pi_enumL {a : Expr} {ta : TA} {p pos : Pos} (hg : Gl X "enumerate") (hm : X.mg "enumerate" = none) (ha : PA X [a] ta) (hs : starEach [a] X.env = [(false, eval a X.env)] := by rfl) :
    PI X (.Tuple elts k tpos) (.Call (.Name "enumerate" p) [a] [] pos) (iEnumL X.K ta) := by
  intro pins s σ H R I h
  refine Call_ (ld_blt I hg hm boot_enumerate (PyProof.Rows.callWith_type1 (thn (ha pos pins s σ H _ I h) fun us s1 ⟨vs, H1, I1, r1, q1⟩ => ?_) hs rfl))
  obtain ⟨a, e, ⟨xs, hq⟩, q⟩ := q1
  subst e
  cases r1 with
  | cons r rr =>
    cases rr
    cases r
    obtain ⟨its, rv, p, hz⟩ := I1.list hq
    refine call_enumerate_list p.isList fun h' he hit hsz hk => ?_
    have I2 : Inv X pins σ H1 { s1 with heap := h' } := I1.kept (t' := s1.toks) hk
    refine wpAny_pyIter_enum he ?_
    refine ⟨s1.heap.objs.size + 1, [s1.heap.objs.size + 1, s1.heap.objs.size], _, _, H1, rfl, I2, turn_enumL a (s1.heap.objs.size + 1) s1.heap.objs.size (Nat.succ_ne_self _), ⟨⟨_, he⟩, hit⟩, fun b hb => ?_, q⟩
    have hb' : s1.heap.objs.size ≤ b := by
      rcases List.mem_cons.mp hb with z | z
      · rw [z]; exact Nat.le_succ _
      · rw [List.mem_singleton.mp z]; exact Nat.le_refl _
    exact I1.fpOk hb' (I1.hok.fresh hb')
end
theorem for_enumL {K : PySem.W.Frag} {a : Addr} {xs : List V} {g : TG} {tb : TS} {D : Ends} {σ : St} {H : Hp} (Pv : Nat → St → Hp → Prop) (h0 : Pv 0 σ H) (hl : ∀ i σ H, i ≤ xs.length → Pv i σ H → SqL K H a xs)
    (hs : ∀ i x p σ H, xs[i]? = some x → Pv i σ H → H p = none → g (.ref p) σ (upd H p (.tup [.int i, x])) fun σ2 H2 => tb { D with nx := Pv (i + 1), ct := Pv (i + 1), bk := D.nx } σ2 H2) (hd : ∀ σ H, Pv xs.length σ H → D.nx σ H) :
    ∃ W : Nat → Nat → St → Hp → Prop, (∃ m, W 0 m σ H) ∧ ∀ i m σ H, W i m σ H →
      ((ItEl K a).stop i H ∧ D.nx σ H) ∨ ((ItEl K a).go i H ∧ ∃ N : St → Hp → Prop, (∀ σ' H', N σ' H' → ∃ m', m' < m ∧ W (i + 1) m' σ' H') ∧ ∀ x H', (ItEl K a).yld i H x H' → g x σ H' fun σ2 H2 => tb { D with nx := N, ct := N, bk := D.nx } σ2 H2) := by
  refine ⟨fun i m σ H => m = xs.length - i ∧ i ≤ xs.length ∧ Pv i σ H, ⟨xs.length, by simp, Nat.zero_le _, h0⟩, ?_⟩
  rintro i m σ H ⟨rfl, hi, p⟩
  have q := hl i σ H hi p
  by_cases hlt : i < xs.length
  · refine .inr ⟨⟨xs, xs[i], q, by simp [hlt]⟩, Pv (i + 1), fun σ' H' p' => ⟨xs.length - (i + 1), by omega, rfl, hlt, p'⟩, fun x H' y => ?_⟩
    obtain ⟨pp, v, y, hn, e1, e2⟩ := y
    subst e1 e2
    exact hs i v pp σ _ (y xs q) p hn
  · have e : i = xs.length := by omega
    subst e
    exact .inl ⟨⟨xs, q, rfl⟩, hd σ H p⟩
/-- try: .. except ..: where the body raises nothing -/
theorem ps_try {X : Cx} {body : List Stmt} {h0 : ExceptHandler} {hs : List ExceptHandler} {pos : Pos} {t : TS} (hb : PSs X body t) (hx : X.xe = fun _ _ => False := by rfl) : PS X (.Try body (h0 :: hs) [] [] pos) t := by
  intro pins s σ H D I h
  refine wpAny_Try_except (wpAny_mono (hb pins s σ H D I h) (fun f s1 q => ?_) fun e s1 z => ?_)
  · cases f with
    | next => exact wpAny_execs_nil q
    | brk => exact q
    | cont => exact q
    | ret v => exact q
  · rw [hx] at z
    exact z.elim
/-- xs == [] -/
theorem op_eqL_nil {X : Cx} (hu : X.A.units < cLine) : OpR X (compareOp .Eq) (fun x y H Q => ∃ a b xs, x = .ref a ∧ y = .ref b ∧ SqL X.K H a xs ∧ SqL X.K H b [] ∧ Q (.bl xs.isEmpty) H) := by
  intro pins s σ H x y v u Q I rx ry h
  obtain ⟨a, b, xs, rfl, rfl, ha, hb, q⟩ := h
  by_cases hx : xs = []
  · subst hx
    exact op_eqL_same hu pins s σ H _ _ _ _ Q I rx ry ⟨a, b, [], rfl, rfl, ha, hb, rfl, q⟩
  · cases rx
    cases ry
    obtain ⟨its, r1, p1, _⟩ := I.list ha
    obtain ⟨its2, r2, p2, _⟩ := I.list hb
    cases r2
    have hl1 := r1.length
    have hl : xs.length ≠ 0 := fun z => hx (List.length_eq_zero_iff.mp z)
    refine SeqAt.eq_list_lengthsAt p1.isList p2.isList (by rw [bne_iff_ne]; intro z; simp only [List.size_toArray, List.length_nil] at z; omega) hu ⟨.bl false, H, I, rfl, ?_⟩
    cases xs with
    | nil => exact absurd rfl hx
    | cons c r => exact q
end L2

set_option Elab.async false
set_option linter.all false
set_option maxRecDepth 100000
set_option maxHeartbeats 4000000
/-! parts as data, how they stand in the heap, while they grow and when they are told; their text -/
namespace L2
open PySem PySem.Spec PyProof.Rows
/-! ### no sign below the blank -/
def Pl (x : Str) : Prop := ∀ c ∈ x.cps.toList, 32 ≤ c
instance (x : Str) : Decidable (Pl x) := inferInstanceAs (Decidable (∀ c ∈ x.cps.toList, 32 ≤ c))
theorem cps_app (a b : Str) : (a ++ b).cps.toList = a.cps.toList ++ b.cps.toList := by
  show (a.cps ++ b.cps).toList = _
  simp
theorem Pl.app {a b : Str} (ha : Pl a) (hb : Pl b) : Pl (a ++ b) := fun c hc => by
  rw [cps_app] at hc
  rcases List.mem_append.mp hc with z | z
  · exact ha c z
  · exact hb c z
theorem Pl.join : ∀ {l : List Str}, (∀ x ∈ l, Pl x) → Pl (Str.join " " l)
  | [], _ => by
    intro c hc
    exact absurd hc (by show ¬ c ∈ (Str.join " " []).cps.toList; rw [show (Str.join " " []).cps.toList = [] by decide +kernel]; simp)
  | [x], h => h x List.mem_cons_self
  | x :: y :: r, h => by
    have ih := Pl.join (l := y :: r) fun z hz => h z (List.mem_cons_of_mem _ hz)
    show Pl (x ++ " " ++ Str.join " " (y :: r))
    exact ((h x List.mem_cons_self).app (by decide +kernel)).app ih
theorem NameOk.pl {x : Str} (h : NameOk x) : Pl x := fun c hc => by
  have := h.signs c hc
  unfold isSg isLet isFig at this
  simp only [Bool.or_eq_true, Bool.and_eq_true, decide_eq_true_eq] at this
  omega
theorem ThOk.pl {t : Th} (h : ThOk t) : Pl (thS t) := by
  cases t with
  | nam x => exact NameOk.pl h
  | num n =>
    obtain ⟨e, hl⟩ := num_text h.1 h.2
    intro c hc
    have hc' : c ∈ (Str.ofString (toString n)).cps.toList := hc
    rw [e] at hc'
    have := digit_range _ c hc'
    omega
theorem sgS_pl (s : Int) : Pl (sgS s) := by
  unfold sgS
  split
  · decide +kernel
  · decide +kernel
theorem tailW_pl : ∀ {ts : List (Int × Th)}, (∀ p ∈ ts, ThOk p.2) → ∀ x ∈ tailW ts, Pl x
  | [], _, x, hx => by simp [tailW] at hx
  | (a, b) :: r, h, x, hx => by
    have hx' : x ∈ sgS a :: thS b :: tailW r := hx
    rcases List.mem_cons.mp hx' with z | z
    · rw [z]; exact sgS_pl a
    · rcases List.mem_cons.mp z with z | z
      · rw [z]; exact (h (a, b) List.mem_cons_self).pl
      · exact tailW_pl (fun p hp => h p (List.mem_cons_of_mem _ hp)) x z
theorem sumW_pl {ts : List (Int × Th)} (h : ∀ p ∈ ts, ThOk p.2) : ∀ x ∈ sumW ts, Pl x := by
  cases ts with
  | nil => intro x hx; simp [sumW] at hx
  | cons p r =>
    intro x hx
    have hx' : x ∈ thS p.2 :: tailW r := hx
    rcases List.mem_cons.mp hx' with z | z
    · rw [z]; exact (h p List.mem_cons_self).pl
    · exact tailW_pl (fun p hp => h p (List.mem_cons_of_mem _ hp)) x z
theorem pairW_pl : ∀ {ps : List (Str × Str)}, (∀ p ∈ ps, NameOk p.1 ∧ NameOk p.2) → ∀ x ∈ pairW ps, Pl x
  | [], _, x, hx => by simp [pairW] at hx
  | (a, b) :: r, h, x, hx => by
    have hx' : x ∈ a :: "as" :: b :: pairW r := hx
    have h0 := h (a, b) List.mem_cons_self
    rcases List.mem_cons.mp hx' with z | z
    · rw [z]; exact h0.1.pl
    · rcases List.mem_cons.mp z with z | z
      · rw [z]; decide +kernel
      · rcases List.mem_cons.mp z with z | z
        · rw [z]; exact h0.2.pl
        · exact pairW_pl (fun p hp => h p (List.mem_cons_of_mem _ hp)) x z
theorem whenW_pl {o : Option Str} (h : OptOk o) : ∀ x ∈ whenW o, Pl x := by
  cases o with
  | none => intro x hx; simp [whenW] at hx
  | some y =>
    intro x hx
    have hx' : x ∈ (["when", y] : List Str) := hx
    rcases List.mem_cons.mp hx' with z | z
    · rw [z]; decide +kernel
    · rw [List.mem_singleton.mp z]; exact (h y rfl).pl
theorem pls_cons {x : Str} {ws : List Str} (h : Pl x) (hw : ∀ y ∈ ws, Pl y) : ∀ y ∈ x :: ws, Pl y := fun y hy => by
  rcases List.mem_cons.mp hy with z | z
  · rw [z]; exact h
  · exact hw y z
theorem pls_nil : ∀ y ∈ ([] : List Str), Pl y := fun y hy => by simp at hy
def rowT (rw : Rw) : Str := Str.join " " (rowW rw)
theorem rowT_pl {rw : Rw} (h : RwOk rw) : Pl (rowT rw) := by
  refine Pl.join ?_
  cases rw with
  | bring p ps => exact pls_cons (by decide +kernel) (pls_cons h.1.pl (pairW_pl h.2.2))
  | give o g => exact pls_cons (by decide +kernel) (pls_cons h.1.pl (pls_cons (by decide +kernel) (pls_cons h.2.pl pls_nil)))
  | set o ts => exact pls_cons (by decide +kernel) (pls_cons h.1.pl (pls_cons (by decide +kernel) (sumW_pl h.2.th)))
  | take o => exact pls_cons (by decide +kernel) (pls_cons (NameOk.pl h) pls_nil)
  | say ts w =>
    refine pls_cons (by decide +kernel) fun y hy => ?_
    rcases List.mem_append.mp hy with z | z
    · exact sumW_pl h.1.th y z
    · exact whenW_pl h.2 y z
  | need ts => exact pls_cons (by decide +kernel) (sumW_pl (SumOk.th h))
  | ask p w => exact pls_cons (by decide +kernel) (pls_cons h.1.pl (whenW_pl h.2))
  | part p => exact pls_cons (by decide +kernel) (pls_cons (NameOk.pl h) pls_nil)
  | doo p => exact pls_cons (by decide +kernel) (pls_cons (NameOk.pl h) pls_nil)
/-! ### parts -/
abbrev Pt := Str × List Rw
def isWork : Rw → Bool
  | .part _ | .doo _ => false
  | _ => true
def rowsOf (ps : List Pt) : List Rw := ps.flatMap fun p => .part p.1 :: p.2
def linesOf (ps : List Pt) : List Str := (rowsOf ps).map rowT
def partsT (ps : List Pt) : Str := Str.join "\n" (linesOf ps)
structure PsOk (ps : List Pt) : Prop where
  nm : ∀ p ∈ ps, NameOk p.1
  rw : ∀ p ∈ ps, ∀ r ∈ p.2, RwOk r ∧ isWork r = true
  few : (rowsOf ps).length ≤ 60
theorem rowsOf_ok {ps : List Pt} (h : PsOk ps) : ∀ r ∈ rowsOf ps, RwOk r := fun r hr => by
  obtain ⟨p, hp, hr⟩ := List.mem_flatMap.mp hr
  rcases List.mem_cons.mp hr with z | z
  · rw [z]; exact h.nm p hp
  · exact (h.rw p hp r z).1
theorem nl : ("\n" : Str) = ⟨#[10]⟩ := by decide +kernel
theorem lines_free {ps : List Pt} (h : PsOk ps) : ∀ a ∈ linesOf ps, 10 ∉ a.cps.toList := fun a ha hc => by
  obtain ⟨r, hr, rfl⟩ := List.mem_map.mp ha
  have := rowT_pl (rowsOf_ok h r hr) 10 hc
  omega
theorem split_lines {ps : List Pt} (h : PsOk ps) (hne : linesOf ps ≠ []) : Txt.split (partsT ps) "\n" = linesOf ps := by
  unfold partsT
  rw [nl]
  exact split_join hne (lines_free h)
theorem lines_weight {ps : List Pt} (h : PsOk ps) : ((linesOf ps).map (·.length)).sum ≤ 1300 * (linesOf ps).length := by
  have : ∀ (l : List Rw), (∀ x ∈ l, RwOk x) → ((l.map rowT).map (·.length)).sum ≤ 1300 * (l.map rowT).length := by
    intro l
    induction l with
    | nil => intro _; simp
    | cons x r ih =>
      intro hl
      have h1 : (rowT x).length ≤ 1300 := join_len (hl x List.mem_cons_self).words
      have h2 := ih fun y hy => hl y (List.mem_cons_of_mem _ hy)
      simp only [List.map_cons, List.sum_cons, List.length_cons] at h2 ⊢; omega
  exact this _ (rowsOf_ok h)
theorem lines_len {ps : List Pt} (h : PsOk ps) : (linesOf ps).length ≤ 60 := by
  unfold linesOf
  rw [List.length_map]
  exact h.few
theorem partsT_len {ps : List Pt} (h : PsOk ps) : (partsT ps).length ≤ 80000 := by
  have h1 := StrLaws.join_length_le "\n" (linesOf ps)
  have h2 := lines_weight h
  have h3 := lines_len h
  have hbl : ("\n" : Str).length = 1 := by decide +kernel
  rw [hbl] at h1
  unfold partsT
  omega
theorem rowT_ne {rw : Rw} (h : RwOk rw) : 1 ≤ (rowT rw).length := by
  have hw := h.words
  unfold rowT
  cases e : rowW rw with
  | nil => have := hw.lo; rw [e] at this; simp at this
  | cons a r =>
    cases r with
    | nil => have := hw.lo; rw [e] at this; simp at this
    | cons b q =>
      show 1 ≤ (a ++ " " ++ Str.join " " (b :: q)).length
      rw [Str.length_append, Str.length_append, show (" " : Str).length = 1 by decide +kernel]
      omega
theorem partsT_ne {ps : List Pt} (h : PsOk ps) (hne : ps ≠ []) : partsT ps ≠ "" := by
  cases ps with
  | nil => exact absurd rfl hne
  | cons p r =>
    intro e
    have hp : RwOk (.part p.1) := h.nm p List.mem_cons_self
    have h1 := rowT_ne hp
    have e2 : linesOf (p :: r) = rowT (.part p.1) :: ((p.2 ++ rowsOf r).map rowT) := by
      unfold linesOf rowsOf
      simp
    have h3 : (rowT (.part p.1)).length ≤ (partsT (p :: r)).length := by
      unfold partsT
      rw [e2]
      cases (p.2 ++ rowsOf r).map rowT with
      | nil => exact Nat.le_refl _
      | cons a q =>
        show _ ≤ (rowT (.part p.1) ++ "\n" ++ Str.join "\n" (a :: q)).length
        rw [Str.length_append, Str.length_append]
        omega
    rw [e] at h3
    have : ("" : Str).length = 0 := by decide +kernel
    omega
/-! ### in the heap -/
def RowV (H : Hp) (v : V) (rw : Rw) : Prop := ∃ r, v = .ref r ∧ RowAt H r rw
abbrev RowsAt (H : Hp) : List V → List Rw → Prop := Paired (RowV H)
theorem RowsAt.mono {H H' : Hp} (s : Tups H H') {vs : List V} {rs : List Rw} (h : RowsAt H vs rs) : RowsAt H' vs rs := Paired.mapP h fun _ _ ⟨r, e, q⟩ => ⟨r, e, q.mono s⟩
def PartAt (H : Hp) (v : V) (p : Pt) : Prop := ∃ t u vs, v = .ref t ∧ H t = some (.tup [.str p.1, .ref u]) ∧ H u = some (.tup vs) ∧ RowsAt H vs p.2
theorem PartAt.mono {H H' : Hp} (s : Tups H H') {v : V} {p : Pt} (h : PartAt H v p) : PartAt H' v p := by
  obtain ⟨t, u, vs, e, h1, h2, h3⟩ := h
  exact ⟨t, u, vs, e, s _ _ h1, s _ _ h2, h3.mono s⟩
def PartsAt (H : Hp) (a : Addr) (ps : List Pt) : Prop := ∃ vs, H a = some (.tup vs) ∧ Paired (PartAt H) vs ps
theorem PartsAt.mono {H H' : Hp} (s : Tups H H') {a : Addr} {ps : List Pt} (h : PartsAt H a ps) : PartsAt H' a ps := by
  obtain ⟨vs, h1, h2⟩ := h
  exact ⟨vs, s _ _ h1, Paired.mapP h2 fun _ _ q => q.mono s⟩
/-! ### while they grow: pairs of a name and a list of rows, the lists not in F -/
def LP (H : Hp) (F : List Addr) (v : V) (p : Pt) : Prop := ∃ t l rs, v = .ref t ∧ H t = some (.tup [.str p.1, .ref l]) ∧ H l = some (.lst rs) ∧ RowsAt H rs p.2 ∧ l ∉ F
theorem LP.keep {H H' : Hp} {F F' : List Addr} (ht : Tups H H') (hl : ∀ l rs, l ∉ F → H l = some (.lst rs) → H' l = some (.lst rs) ∧ l ∉ F') {v : V} {p : Pt} (h : LP H F v p) : LP H' F' v p := by
  obtain ⟨t, l, rs, e, h1, h2, h3, h4⟩ := h
  exact ⟨t, l, rs, e, ht _ _ h1, (hl l rs h4 h2).1, h3.mono ht, (hl l rs h4 h2).2⟩
def Op (H0 H : Hp) (F : List Addr) (vs : List V) (ps : List Pt) : Prop :=
  (vs = [] ∧ ps = []) ∨ ∃ us done n rws t l rs, vs = us ++ [.ref t] ∧ ps = done ++ [(n, rws)] ∧ H t = some (.tup [.str n, .ref l]) ∧ H l = some (.lst rs) ∧ RowsAt H rs rws ∧ l ∉ F ∧ H0 l = none ∧ Paired (LP H (l :: F)) us done
theorem Op.all {H0 H : Hp} {F : List Addr} {vs : List V} {ps : List Pt} (h : Op H0 H F vs ps) : Paired (LP H F) vs ps := by
  rcases h with ⟨rfl, rfl⟩ | ⟨us, done, n, rws, t, l, rs, rfl, rfl, h1, h2, h3, h4, _, h5⟩
  · exact .nil
  · refine Paired.snoc (Paired.mapP h5 fun _ _ q => ?_) ⟨t, l, rs, rfl, h1, h2, h3, h4⟩
    exact q.keep (Tups.refl _) fun l' rs' hn e => ⟨e, fun z => hn (List.mem_cons_of_mem _ z)⟩
theorem Op.keep {H0 H H' : Hp} {F : List Addr} (ht : Tups H H') (hl : ∀ l rs, l ∉ F → H l = some (.lst rs) → H' l = some (.lst rs)) {vs : List V} {ps : List Pt} (h : Op H0 H F vs ps) : Op H0 H' F vs ps := by
  rcases h with h | ⟨us, done, n, rws, t, l, rs, e1, e2, h1, h2, h3, h4, h0, h5⟩
  · exact .inl h
  · refine .inr ⟨us, done, n, rws, t, l, rs, e1, e2, ht _ _ h1, hl _ _ h4 h2, h3.mono ht, h4, h0, Paired.mapP h5 fun _ _ q => q.keep ht fun l' rs' hn e => ⟨hl l' rs' (fun z => hn (List.mem_cons_of_mem _ z)) e, hn⟩⟩
/-- a new part behind the others -/
theorem Op.part {H0 H : Hp} {F : List Addr} {vs : List V} {ps : List Pt} {n : Str} {t l : Addr} (h : Op H0 H F vs ps) (hl : H l = none) (ht : upd H l (.lst []) t = none) (hF : l ∉ F) (h0 : H0 l = none) :
    Op H0 (upd (upd H l (.lst [])) t (.tup [.str n, .ref l])) F (vs ++ [.ref t]) (ps ++ [(n, [])]) := by
  have htl : l ≠ t := ne_of_none (upd_same (H := H) (a := l) (o := .lst [])) ht
  refine .inr ⟨vs, ps, n, [], t, l, [], rfl, rfl, upd_same, ?_, .nil, hF, h0, ?_⟩
  · rw [upd_ne htl, upd_same]
  · have T : Tups H (upd (upd H l (.lst [])) t (.tup [.str n, .ref l])) := (Tups.new hl).trans (Tups.new ht)
    exact Paired.mapP h.all fun _ _ q => q.keep T fun l' rs' hn e => ⟨upd_keep (upd_keep e hl) ht, fun z => by
      rcases List.mem_cons.mp z with z | z
      · rw [z, hl] at e; cases e
      · exact hn z⟩
/-- a row more in the last part -/
theorem Op.row {H0 H : Hp} {F : List Addr} {us : List V} {done : List Pt} {n : Str} {rws : List Rw} {t l : Addr} {rs : List V} {v : V} {rw : Rw} (h1 : H t = some (.tup [.str n, .ref l])) (h2 : H l = some (.lst rs)) (h3 : RowsAt H rs rws) (h4 : l ∉ F) (h0 : H0 l = none)
    (h5 : Paired (LP H (l :: F)) us done) (hv : RowV H v rw) : Op H0 (upd H l (.lst (rs ++ [v]))) F (us ++ [.ref t]) (done ++ [(n, rws ++ [rw])]) := by
  have T : Tups H (upd H l (.lst (rs ++ [v]))) := Tups.lst h2
  obtain ⟨r, e, q⟩ := hv
  refine .inr ⟨us, done, n, _, t, l, _, rfl, rfl, T _ _ h1, upd_same, Paired.snoc (h3.mono T) ⟨r, e, q.mono T⟩, h4, h0, Paired.mapP h5 fun _ _ q => q.keep T fun l' rs' hn e => ⟨?_, hn⟩⟩
  rw [upd_ne (fun z => hn (by rw [z]; exact List.mem_cons_self))]
  exact e
/-! ### a row more, as data -/
def stepR (ps : List Pt) (rw : Rw) : List Pt :=
  match rw with
  | .part n => ps ++ [(n, [])]
  | r => match ps.getLast? with
    | none => ps
    | some (n, rs) => ps.dropLast ++ [(n, rs ++ [r])]
theorem step_work {ps : List Pt} {n : Str} {rs : List Rw} {r : Rw} (h : isWork r = true) : stepR (ps ++ [(n, rs)]) r = ps ++ [(n, rs ++ [r])] := by
  cases r <;> first | (exact absurd h Bool.false_ne_true) | (simp [stepR])
theorem fold_rows : ∀ (rs : List Rw) (ps : List Pt) (n : Str) (qs : List Rw), (∀ r ∈ rs, isWork r = true) → rs.foldl stepR (ps ++ [(n, qs)]) = ps ++ [(n, qs ++ rs)]
  | [], ps, n, qs, _ => by simp
  | r :: rs, ps, n, qs, h => by
    rw [List.foldl_cons, step_work (h r List.mem_cons_self), fold_rows rs ps n (qs ++ [r]) fun x hx => h x (List.mem_cons_of_mem _ hx)]
    simp
theorem fold_parts : ∀ (ps acc : List Pt), (∀ p ∈ ps, ∀ r ∈ p.2, isWork r = true) → (rowsOf ps).foldl stepR acc = acc ++ ps
  | [], acc, _ => by simp [rowsOf]
  | (n, rs) :: ps, acc, h => by
    have e : rowsOf ((n, rs) :: ps) = .part n :: (rs ++ rowsOf ps) := by simp [rowsOf]
    rw [e, List.foldl_cons, List.foldl_append]
    show (rowsOf ps).foldl stepR (rs.foldl stepR (acc ++ [(n, [])])) = _
    rw [fold_rows rs acc n [] (h (n, rs) List.mem_cons_self), fold_parts ps _ fun p hp => h p (List.mem_cons_of_mem _ hp)]
    simp
end L2

set_option Elab.async false
set_option linter.all false
set_option maxRecDepth 100000
set_option maxHeartbeats 4000000
namespace L2
open PySem PySem.Spec PyProof.Rows

/-! ### lists of pairs as tables -/
section
variable {κ : Type} [DecidableEq κ]
def valV (kvs : List (κ × V)) (k : κ) : Option V := (kvs.find? fun kv => decide (kv.1 = k)).map (·.2)
/-- in its place, or at the end -/
def putK (kvs : List (κ × V)) (k : κ) (v : V) : List (κ × V) :=
  if (kvs.any fun kv => decide (kv.1 = k)) = true then kvs.map (fun kv => if kv.1 = k then (kv.1, v) else kv) else kvs ++ [(k, v)]
def dropK (kvs : List (κ × V)) (k : κ) : List (κ × V) := kvs.filter fun kv => decide (kv.1 ≠ k)

theorem valV_nil {k : κ} : valV ([] : List (κ × V)) k = none := rfl
theorem valV_pos {p : κ × V} {r : List (κ × V)} {k : κ} (e : p.1 = k) : valV (p :: r) k = some p.2 := by simp [valV, List.find?_cons, e]
theorem valV_neg {p : κ × V} {r : List (κ × V)} {k : κ} (e : ¬ p.1 = k) : valV (p :: r) k = valV r k := by simp [valV, List.find?_cons, e]
theorem valV_any (k : κ) : ∀ kvs : List (κ × V), (kvs.any fun kv => decide (kv.1 = k)) = (valV kvs k).isSome
  | [] => rfl
  | p :: r => by
    rw [List.any_cons]
    by_cases e : p.1 = k
    · simp only [valV_pos e, decide_eq_true e, Bool.true_or, Option.isSome_some]
    · rw [valV_neg e, decide_eq_false e, Bool.false_or]; exact valV_any k r
theorem valV_map (k j : κ) (y : V) : ∀ kvs : List (κ × V), valV (kvs.map fun kv => if kv.1 = k then (kv.1, y) else kv) j = (valV kvs j).map fun x => if j = k then y else x
  | [] => rfl
  | p :: r => by
    have ih := valV_map k j y r
    rw [List.map_cons]
    by_cases h : p.1 = k
    · rw [if_pos h]
      by_cases e : p.1 = j
      · rw [valV_pos (p := (p.1, y)) e, valV_pos e, Option.map_some, if_pos (e.symm.trans h)]
      · rw [valV_neg (p := (p.1, y)) e, valV_neg e, ih]
    · rw [if_neg h]
      by_cases e : p.1 = j
      · rw [valV_pos (p := p) e, valV_pos e, Option.map_some, if_neg (fun z => h (e.trans z))]
      · rw [valV_neg (p := p) e, valV_neg e, ih]
theorem valV_snoc (k j : κ) (y : V) : ∀ kvs : List (κ × V), valV kvs k = none → valV (kvs ++ [(k, y)]) j = if j = k then some y else valV kvs j
  | [], _ => by
    by_cases e : k = j
    · rw [if_pos e.symm]; exact valV_pos (p := (k, y)) e
    · rw [if_neg (fun z => e z.symm)]; exact valV_neg (p := (k, y)) e
  | p :: r, hn => by
    rw [List.cons_append]
    have hk : ¬ p.1 = k := fun z => by rw [valV_pos z] at hn; cases hn
    rw [valV_neg hk] at hn
    have ih := valV_snoc k j y r hn
    by_cases e : p.1 = j
    · rw [valV_pos e, valV_pos e, if_neg (fun z => hk (e.trans z))]
    · rw [valV_neg e, valV_neg e, ih]
theorem valV_put (kvs : List (κ × V)) (k j : κ) (y : V) : valV (putK kvs k y) j = if j = k then some y else valV kvs j := by
  unfold putK
  by_cases a : (kvs.any fun kv => decide (kv.1 = k)) = true
  · rw [if_pos a, valV_map]
    rw [valV_any] at a
    by_cases e : j = k
    · obtain ⟨x, hx⟩ := Option.isSome_iff_exists.mp a
      rw [if_pos e, e, hx, Option.map_some, if_pos rfl]
    · rw [if_neg e]
      cases valV kvs j with
      | none => rfl
      | some x => rw [Option.map_some, if_neg e]
  · rw [if_neg a]
    refine valV_snoc k j y kvs ?_
    rw [valV_any] at a
    cases q : valV kvs k with
    | none => rfl
    | some x => rw [q] at a; exact (a rfl).elim
theorem length_putK (kvs : List (κ × V)) (k : κ) (v : V) : (putK kvs k v).length ≤ kvs.length + 1 := by
  unfold putK
  split
  · rw [List.length_map]; omega
  · rw [List.length_append, List.length_cons, List.length_nil]; omega
theorem putK_new {kvs : List (κ × V)} {k : κ} (v : V) (h : valV kvs k = none) : putK kvs k v = kvs ++ [(k, v)] := by
  unfold putK
  rw [valV_any, h]
  exact if_neg (by decide)

theorem RelO.isSome_eq {o : Option V} {u : Option Value} (r : RelO o u) : o.isSome = u.isSome := by
  cases o with
  | none => cases u with
    | none => rfl
    | some _ => exact (show False from r).elim
  | some _ => cases u with
    | none => exact (show False from r).elim
    | some _ => rfl
theorem RelO.getD {o : Option V} {u : Option Value} {d : V} {d' : Value} (r : RelO o u) (rd : RelV d d') : RelV (o.getD d) (u.getD d') := by
  cases o with
  | none => cases u with
    | none => exact rd
    | some _ => exact (show False from r).elim
  | some _ => cases u with
    | none => exact (show False from r).elim
    | some _ => exact r

/-- raw tables of the same keys -/
theorem KV.val {kvs : List (κ × V)} {vs : List (κ × Value)} (r : KV kvs vs) (k : κ) : RelO (valV kvs k) (valueAt vs k) := by
  unfold KV at r
  induction r with
  | nil => exact True.intro
  | @cons p q ps qs h t ih =>
    obtain ⟨h1, h2⟩ := h
    by_cases e : p.1 = k
    · have e' : q.1 = k := h1.symm.trans e
      have b : valueAt (q :: qs) k = some q.2 := by simp [valueAt, List.find?_cons, e']
      rw [valV_pos e, b]; exact h2
    · have e' : ¬ q.1 = k := fun z => e (h1.trans z)
      have b : valueAt (q :: qs) k = valueAt qs k := by simp [valueAt, List.find?_cons, e']
      rw [valV_neg e, b]; exact ih
theorem KV.any {kvs : List (κ × V)} {vs : List (κ × Value)} (r : KV kvs vs) (k : κ) : (kvs.any fun kv => decide (kv.1 = k)) = vs.any fun kv => decide (kv.1 = k) := by
  unfold KV at r
  induction r with
  | nil => rfl
  | cons h t ih => rw [List.any_cons, List.any_cons, ih, h.1]
theorem KV.repl {kvs : List (κ × V)} {vs : List (κ × Value)} (r : KV kvs vs) (k : κ) {y : V} {u : Value} (ry : RelV y u) :
    KV (kvs.map fun kv => if kv.1 = k then (kv.1, y) else kv) (vs.map fun kv => if kv.1 = k then (kv.1, u) else kv) := by
  unfold KV at r ⊢
  induction r with
  | nil => exact .nil
  | @cons p q ps qs h t ih =>
    rw [List.map_cons, List.map_cons]
    refine .cons ?_ ih
    obtain ⟨h1, h2⟩ := h
    by_cases e : p.1 = k
    · rw [if_pos e, if_pos (h1.symm.trans e)]; exact ⟨h1, ry⟩
    · rw [if_neg e, if_neg (fun z => e (h1.trans z))]; exact ⟨h1, h2⟩
theorem KV.put {kvs : List (κ × V)} {vs : List (κ × Value)} (r : KV kvs vs) (k : κ) {y : V} {u : Value} (ry : RelV y u) : KV (putK kvs k y) (stored vs k u) := by
  unfold putK stored
  rw [r.any k]
  by_cases e : (vs.any fun kv => decide (kv.1 = k)) = true
  · rw [if_pos e, if_pos e]; exact r.repl k ry
  · rw [if_neg e, if_neg e]; exact Paired.snoc r ⟨rfl, ry⟩
theorem KV.drop {kvs : List (κ × V)} {vs : List (κ × Value)} (r : KV kvs vs) (k : κ) : KV (dropK kvs k) (without vs k) := by
  unfold KV at r ⊢
  unfold dropK without
  induction r with
  | nil => exact .nil
  | @cons p q ps qs h t ih =>
    obtain ⟨h1, h2⟩ := h
    rw [List.filter_cons, List.filter_cons]
    by_cases e : p.1 = k
    · have a : ¬ decide (p.1 ≠ k) = true := by simp [e]
      have b : ¬ decide (q.1 ≠ k) = true := by simp [h1.symm.trans e]
      rw [if_neg a, if_neg b]; exact ih
    · have e' : ¬ q.1 = k := fun z => e (h1.trans z)
      have a : decide (p.1 ≠ k) = true := by simp [e]
      have b : decide (q.1 ≠ k) = true := by simp [e']
      rw [if_pos a, if_pos b]; exact .cons ⟨h1, h2⟩ ih
theorem KV.keys {kvs : List (κ × V)} {vs : List (κ × Value)} (r : KV kvs vs) : kvs.map (·.1) = vs.map (·.1) := by
  unfold KV at r
  induction r with
  | nil => rfl
  | cons h t ih => rw [List.map_cons, List.map_cons, ih, h.1]
theorem KV.length {kvs : List (κ × V)} {vs : List (κ × Value)} (r : KV kvs vs) : kvs.length = vs.length := Paired.length r
theorem dropK_le (kvs : List (κ × V)) (k : κ) : (dropK kvs k).length ≤ kvs.length := List.length_filter_le _ _
end


/-! ### a tracked dict, its keys ints and texts or tuples of these -/
theorem kV_is {P : Program} {w : World} {k : Key} {u : Value} (r : RelV (kV k) u) : (mixKind P w).is k u = true := by
  cases k with
  | inl i => obtain ⟨t, e⟩ := (show ∃ t, u = Value.int i t from r); subst e; exact mixKind_int P w i t
  | inr x => obtain ⟨t, e⟩ := (show ∃ t, u = Value.str x t from r); subst e; exact mixKind_str P w x t
theorem kV_inj {a b : Key} (e : kV a = kV b) : a = b := by
  cases a with
  | inl i => cases b with
    | inl j => have e' : V.int i = V.int j := e; injection e' with e'; rw [e']
    | inr y => exact nomatch (show V.int i = V.str y from e)
  | inr x => cases b with
    | inl j => exact nomatch (show V.str x = V.int j from e)
    | inr y => have e' : V.str x = V.str y := e; injection e' with e'; rw [e']
theorem kVs_inj : ∀ {a b : List Key}, a.map kV = b.map kV → a = b
  | [], [], _ => rfl
  | [], _ :: _, e => by simp at e
  | _ :: _, [], e => by simp at e
  | x :: xs, y :: ys, e => by
    rw [List.map_cons, List.map_cons] at e
    injection e with e1 e2
    rw [kV_inj e1, kVs_inj e2]
theorem items_are {P : Program} {w : World} : ∀ {ks : List Key} {us : List Value}, Vals (ks.map kV) us → ItemsAre (mixKind P w) ks us
  | [], _, r => by rw [List.map_nil] at r; cases r; exact .nil
  | k :: ks, _, r => by
    rw [List.map_cons] at r
    cases r with
    | cons h t => exact .cons (kV_is h) (items_are t)

/-- raw entries of a dict with tuple keys -/
abbrev KT (H : Hp) : List (List Key × V) → List (List Key × Addr × Value) → Prop := Paired fun p q => p.1 = q.1 ∧ H q.2.1 = some (.tup (p.1.map kV)) ∧ RelV p.2 q.2.2
theorem KT.val {H : Hp} {kvs : List (List Key × V)} {xs : List (List Key × Addr × Value)} (r : KT H kvs xs) (k : List Key) : RelO (valV kvs k) ((atKey xs k).map (·.2)) := by
  induction r with
  | nil => exact True.intro
  | @cons p q ps qs h t ih =>
    obtain ⟨h1, _, h2⟩ := h
    by_cases e : p.1 = k
    · have e' : q.1 = k := h1.symm.trans e
      have b : atKey (q :: qs) k = some q.2 := by simp [atKey, List.find?_cons, e']
      rw [valV_pos e, b]; exact h2
    · have e' : ¬ q.1 = k := fun z => e (h1.trans z)
      have b : atKey (q :: qs) k = atKey qs k := by simp [atKey, List.find?_cons, e']
      rw [valV_neg e, b]; exact ih
theorem KT.repl {H : Hp} {kvs : List (List Key × V)} {xs : List (List Key × Addr × Value)} (r : KT H kvs xs) (k : List Key) {y : V} {u : Value} (ry : RelV y u) :
    KT H (kvs.map fun kv => if kv.1 = k then (kv.1, y) else kv) (xs.map (putAt k u)) := by
  induction r with
  | nil => exact .nil
  | @cons p q ps qs h t ih =>
    rw [List.map_cons, List.map_cons]
    refine .cons ?_ ih
    obtain ⟨h1, h2, h3⟩ := h
    unfold putAt
    by_cases e : p.1 = k
    · rw [if_pos e, if_pos (h1.symm.trans e)]; exact ⟨h1, h2, ry⟩
    · rw [if_neg e, if_neg (fun z => e (h1.trans z))]; exact ⟨h1, h2, h3⟩
theorem KT.put {H : Hp} {kvs : List (List Key × V)} {xs : List (List Key × Addr × Value)} (r : KT H kvs xs) (k : List Key) {b : Addr} {y : V} {u : Value} (hb : H b = some (.tup (k.map kV))) (ry : RelV y u) :
    KT H (putK kvs k y) (storedH xs k b u) := by
  have e : (kvs.any fun kv => decide (kv.1 = k)) = (atKey xs k).isSome := by
    rw [valV_any, (r.val k).isSome_eq, Option.isSome_map]
  unfold putK storedH
  rw [e]
  by_cases q : (atKey xs k).isSome = true
  · rw [if_pos q, if_pos q]; exact r.repl k ry
  · rw [if_neg q, if_neg q]; exact Paired.snoc r ⟨rfl, hb, ry⟩
theorem KT.keeps {H H' : Hp} {kvs : List (List Key × V)} {xs : List (List Key × Addr × Value)} (r : KT H kvs xs) (ht : ∀ b ys, H b = some (.tup ys) → H' b = some (.tup ys)) : KT H' kvs xs :=
  Paired.mapP r fun _ _ z => ⟨z.1, ht _ _ z.2.1, z.2.2⟩

section
variable {P : Program} {w : World} {H : Hp} {h : Heap} {a : Addr}
theorem rd_of {u : HO} (ok : HOk P w H h) (e : Rd H a u) : ObjOk P w H h a u := e.ok ok
theorem dk_rd {kvs : List (Key × V)} (ok : HOk P w H h) (e : Rd H a (.dK kvs)) : kvs.length ≤ sizeLine ∧ (a == sysModules) = false ∧ ∃ vs, KV kvs vs ∧ h.DictOf (mixKind P w) a vs :=
  show ObjOk P w H h a (.dK kvs) from rd_of ok e
theorem dk_of {kvs : List (Key × V)} (ok : HOk P w H h) (e : H a = some (.dK kvs)) : kvs.length ≤ sizeLine ∧ (a == sysModules) = false ∧ ∃ vs, KV kvs vs ∧ h.DictOf (mixKind P w) a vs := dk_rd ok (.inl e)
/-- a tracked tuple of ints and texts is a key -/
theorem key_of {ks : List Key} (ok : HOk P w H h) (e : H a = some (.tup (ks.map kV))) : (tupleKind (mixKind P w)).is h ks a := by
  obtain ⟨_, its, r, o, h1, h2, n, h3⟩ := (show ObjOk P w H h a (.tup (ks.map kV)) from ok a _ e)
  exact ⟨o, its.toArray, n, h1, h2, h3, by simpa using items_are r⟩
theorem dt_rd {kvs : List (List Key × V)} (ok : HOk P w H h) (e : Rd H a (.dT kvs)) : kvs.length ≤ sizeLine ∧ (a == sysModules) = false ∧
    ∃ xs, KT H kvs xs ∧ h.DictOfH (tupleKind (mixKind P w)) a xs := by
  obtain ⟨z, y, xs, r, o, es, ep, h1, h2, h3, h4, h5⟩ := (show ObjOk P w H h a (.dT kvs) from rd_of ok e)
  refine ⟨z, y, xs, r, o, es, ep, h1, h2, h3, h4, fun x hx => ?_, h5⟩
  have all : ∀ {l : List (List Key × V)} {m : List (List Key × Addr × Value)}, KT H l m → ∀ x ∈ m, (tupleKind (mixKind P w)).is h x.1 x.2.1 := by
    intro l m q
    induction q with
    | nil => intro x hx; exact nomatch hx
    | @cons p q ps qs hq t ih =>
      intro x hx
      rcases List.mem_cons.mp hx with e | hx
      · subst e
        exact key_of ok (by rw [← hq.1]; exact hq.2.1)
      · exact ih x hx
  exact all r x hx
theorem dt_of {kvs : List (List Key × V)} (ok : HOk P w H h) (e : H a = some (.dT kvs)) : kvs.length ≤ sizeLine ∧ (a == sysModules) = false ∧
    ∃ xs, KT H kvs xs ∧ h.DictOfH (tupleKind (mixKind P w)) a xs := dt_rd ok (.inl e)
end

/-- what the dict at a holds at the key y -/
def DGet (H : Hp) (a : Addr) (y : V) (r : Option V) : Prop :=
  (∃ kvs k, Rd H a (.dK kvs) ∧ y = kV k ∧ r = valV kvs k) ∨ ∃ kvs k b, Rd H a (.dT kvs) ∧ y = .ref b ∧ H b = some (.tup (k.map kV)) ∧ r = valV kvs k
/-- the heap behind a[y] = v -/
def DPut (H : Hp) (a : Addr) (y v : V) (H' : Hp) : Prop :=
  (∃ kvs k, H a = some (.dK kvs) ∧ y = kV k ∧ kvs.length < sizeLine ∧ H' = upd H a (.dK (putK kvs k v))) ∨
  ∃ kvs k b, H a = some (.dT kvs) ∧ y = .ref b ∧ H b = some (.tup (k.map kV)) ∧ kvs.length < sizeLine ∧ H' = upd H a (.dT (putK kvs k v))
theorem DGet.k {H : Hp} {a : Addr} {kvs : List (Key × V)} {k : Key} (e : H a = some (.dK kvs)) : DGet H a (kV k) (valV kvs k) := .inl ⟨kvs, k, .inl e, rfl, rfl⟩
theorem DGet.t {H : Hp} {a b : Addr} {kvs : List (List Key × V)} {k : List Key} (e : H a = some (.dT kvs)) (eb : H b = some (.tup (k.map kV))) : DGet H a (.ref b) (valV kvs k) := .inr ⟨kvs, k, b, .inl e, rfl, eb, rfl⟩
theorem DPut.k {H : Hp} {a : Addr} {kvs : List (Key × V)} {k : Key} {v : V} (e : H a = some (.dK kvs)) (hl : kvs.length < sizeLine) : DPut H a (kV k) v (upd H a (.dK (putK kvs k v))) := .inl ⟨kvs, k, e, rfl, hl, rfl⟩
theorem DPut.t {H : Hp} {a b : Addr} {kvs : List (List Key × V)} {k : List Key} {v : V} (e : H a = some (.dT kvs)) (eb : H b = some (.tup (k.map kV))) (hl : kvs.length < sizeLine) :
    DPut H a (.ref b) v (upd H a (.dT (putK kvs k v))) := .inr ⟨kvs, k, b, e, rfl, eb, hl, rfl⟩


section
variable {X : Cx} {pins : List (Addr × Obj)} {σ : St} {H : Hp} {s : Shared} {a : Addr} {y v : V} {u r : Value} {o : Option V} {A : Around} {E : Value → Shared → Prop}

theorem Inv.big (I : Inv X pins σ H s) : sysModules < s.heap.objs.size := by
  have h : mainGlobals < s.heap.objs.size := (I.mod.glob.keeps I.bk).lt
  exact Nat.lt_trans (by decide) h

/-- d[y], there -/
theorem d_getItem {Q : Value → Shared → Prop} (hu : A.units + 1 < cLine) (I : Inv X pins σ H s) (g : DGet H a y (some v)) (ry : RelV y u) (h : ∀ w' s', Inv X pins σ H s' → RelV v w' → Q w' s') :
    wpAny (model X.prog X.w) A (getItem (.ref a) u) Q E s := by
  rcases g with ⟨kvs, k, e, ey, l⟩ | ⟨kvs, k, b, e, ey, eb, l⟩
  · subst ey
    obtain ⟨z, hd, vs, rel, dd⟩ := dk_rd I.hok e
    obtain ⟨w', hw, rw'⟩ := RelO.some_of (v := v) (o := valueAt vs k) (by rw [l]; exact rel.val k)
    exact wpAny_getItem_of (kV_is ry) dd.mapOf hw (h w' _ (I.tok _) rw')
  · subst ey
    cases (show u = Value.ref b from ry)
    obtain ⟨z, hd, xs, rel, dd⟩ := dt_rd I.hok e
    obtain ⟨w', hw, rw'⟩ := RelO.some_of (v := v) (o := (atKey xs k).map (·.2)) (by rw [l]; exact rel.val k)
    obtain ⟨p, hp, hp2⟩ := Option.map_eq_some_iff.mp hw
    refine wpAny_getItem_heap (tupleKind_room_in1 hu) (key_of I.hok eb) dd hp ?_
    rw [hp2]
    exact h w' _ (I.tok _) rw'
/-- y in d -/
theorem d_in {Q : Value → Shared → Prop} (hu : A.units + 1 < cLine) (I : Inv X pins σ H s) (g : DGet H a y o) (ry : RelV y u) (h : ∀ s', Inv X pins σ H s' → Q (.bool o.isSome) s') :
    wpAny (model X.prog X.w) A (compareOp .In u (.ref a)) Q E s := by
  rcases g with ⟨kvs, k, e, ey, l⟩ | ⟨kvs, k, b, e, ey, eb, l⟩
  · subst ey
    obtain ⟨z, hd, vs, rel, dd⟩ := dk_rd I.hok e
    refine wpAny_in_of (kV_is ry) hd dd.mapOf ?_
    rw [← (rel.val k).isSome_eq, ← l]
    exact h _ (I.tok _)
  · subst ey
    cases (show u = Value.ref b from ry)
    obtain ⟨z, hd, xs, rel, dd⟩ := dt_rd I.hok e
    refine wpAny_in_heap (tupleKind_room_in1 hu) (key_of I.hok eb) hd dd ?_
    have q := (rel.val k).isSome_eq
    rw [Option.isSome_map] at q
    rw [← q, ← l]
    exact h _ (I.tok _)
theorem d_notIn {Q : Value → Shared → Prop} (hu : A.units + 1 < cLine) (I : Inv X pins σ H s) (g : DGet H a y o) (ry : RelV y u) (h : ∀ s', Inv X pins σ H s' → Q (.bool (!o.isSome)) s') :
    wpAny (model X.prog X.w) A (compareOp .NotIn u (.ref a)) Q E s := by
  rcases g with ⟨kvs, k, e, ey, l⟩ | ⟨kvs, k, b, e, ey, eb, l⟩
  · subst ey
    obtain ⟨z, hd, vs, rel, dd⟩ := dk_rd I.hok e
    refine wpAny_notIn_of (kV_is ry) hd dd.mapOf ?_
    rw [← (rel.val k).isSome_eq, ← l]
    exact h _ (I.tok _)
  · subst ey
    cases (show u = Value.ref b from ry)
    obtain ⟨z, hd, xs, rel, dd⟩ := dt_rd I.hok e
    refine wpAny_notIn_heap (tupleKind_room_in1 hu) (key_of I.hok eb) hd dd ?_
    have q := (rel.val k).isSome_eq
    rw [Option.isSome_map] at q
    rw [← q, ← l]
    exact h _ (I.tok _)
/-- a dict's object is replaced -/
theorem d_write {h' : Heap} {t' : Nat} {ob : HO} (I : Inv X pins σ H s) (mu : Mut (H a)) (hs : Heap.SameBut a s.heap h') (he : ∃ q, h'.get? a = some q) (new : ObjOk X.prog X.w (upd H a ob) h' a ob) :
    Inv X pins σ (upd H a ob) { s with heap := h', toks := t' } :=
  I.write (x := a) (e := a) mu (.inl rfl) (fun b q hb z => (hs.2 b hb).trans z) he new
theorem dk_new {P : Program} {w : World} {H' : Hp} {h' : Heap} {kvs : List (Key × V)} {vs : List (Key × Value)} (z : kvs.length ≤ sizeLine) (hd : (a == sysModules) = false) (rel : KV kvs vs) (dd : h'.DictOf (mixKind P w) a vs) :
    ObjOk P w H' h' a (.dK kvs) := ⟨z, hd, vs, rel, dd⟩
/-- d[y] = v -/
theorem d_setItem {H' : Hp} {Q : Unit → Shared → Prop} (hu : A.units + 1 < cLine) (I : Inv X pins σ H s) (g : DPut H a y v H') (ry : RelV y u) (rv : RelV v r) (h : ∀ s', Inv X pins σ H' s' → Q () s') :
    wpAny (model X.prog X.w) A (setItem (.ref a) u r) Q E s := by
  rcases g with ⟨kvs, k, e, ey, l, eH⟩ | ⟨kvs, k, b, e, ey, eb, l, eH⟩
  · subst ey eH
    obtain ⟨z, hd, vs, rel, dd⟩ := dk_of I.hok e
    have hz : vs.length ≤ sizeLine := by rw [← rel.length]; exact z
    have hl : (putK kvs k v).length ≤ sizeLine := by have := length_putK kvs k v; omega
    refine wpAny_setItem_pairs (hsz := hz) (kV_is ry) dd fun h' dd' hs => h _ ?_
    have he : ∃ q, h'.get? a = some q := let ⟨q, _, _, hq, _⟩ := dd'; ⟨q, hq⟩
    exact d_write I (by rw [e]; exact True.intro) hs he (dk_new hl hd (rel.put k rv) dd')
  · subst ey eH
    cases (show u = Value.ref b from ry)
    obtain ⟨z, hd, xs, rel, dd⟩ := dt_of I.hok e
    have hz : xs.length ≤ sizeLine := by rw [← Paired.length rel]; exact z
    have hl : (putK kvs k v).length ≤ sizeLine := by have := length_putK kvs k v; omega
    refine wpAny_setItem_heap (hsz := hz) (tupleKind_room_in1 hu) (key_of I.hok eb) dd fun h' dd' hs => h _ ?_
    obtain ⟨q, es, ep, hq, h2, h3, h4, _, h5⟩ := dd'
    refine d_write I (by rw [e]; exact True.intro) hs ⟨q, hq⟩ ⟨hl, hd, _, (rel.put k eb rv).keeps fun c ys ec => ?_, q, es, ep, hq, h2, h3, h4, h5⟩
    rw [upd_ne (ne_of ec e (fun z => nomatch z))]
    exact ec
end

section
variable {X : Cx} {pins : List (Addr × Obj)} {σ : St} {H : Hp} {s : Shared} {a : Addr} {kvs : List (Key × V)} {k : Key} {u : Value} {A : Around} {E : Value → Shared → Prop}
/-- del d[k] -/
theorem d_delItem {Q : Unit → Shared → Prop} (I : Inv X pins σ H s) (e : H a = some (.dK kvs)) (ry : RelV (kV k) u) (l : (valV kvs k).isSome = true) (h : ∀ s', Inv X pins σ (upd H a (.dK (dropK kvs k))) s' → Q () s') :
    wpAny (model X.prog X.w) A (delItem (.ref a) u) Q E s := by
  obtain ⟨z, hd, vs, rel, dd⟩ := dk_of I.hok e
  refine wpAny_delItem_slot dd.typeIs (by decide) PySem.F.slot_dict_delitem
    (call_meetsIn PySem.F.slot_dict_delitem dd.typeIs PySem.F.entry_dict_delitem (PySem.F.args_dict_delitem_2 _ _) (meets_dict_delitem_pairs (mixKind X.prog X.w) a (kV_is ry)) ⟨vs, dd, by rw [← rel.length]; exact z, by rw [← (rel.val k).isSome_eq]; exact l, fun h' dd' hs => h _ ?_⟩)
  have he : ∃ q, h'.get? a = some q := let ⟨q, _, _, hq, _⟩ := dd'; ⟨q, hq⟩
  exact d_write I (by rw [e]; exact True.intro) hs he (dk_new (Nat.le_trans (dropK_le kvs k) z) hd (rel.drop k) dd')
/-- d.pop(k[, x]), there -/
theorem d_pop {v : V} {more : List Value} {Q : Value → Shared → Prop} (I : Inv X pins σ H s) (e : H a = some (.dK kvs)) (ry : RelV (kV k) u) (l : valV kvs k = some v) (hm : more = [] ∨ ∃ x, more = [x])
    (h : ∀ w' s', Inv X pins σ (upd H a (.dK (dropK kvs k))) s' → RelV v w' → Q w' s') : wpAny (model X.prog X.w) A (call (.builtin "dict.pop") (.ref a :: u :: more)) Q E s := by
  obtain ⟨z, hd, vs, rel, dd⟩ := dk_of I.hok e
  obtain ⟨w', hw, rw'⟩ := RelO.some_of (v := v) (o := valueAt vs k) (by rw [← l]; exact rel.val k)
  have hp : (keyPart u).isSome = true := by
    cases k with
    | inl i => obtain ⟨t, q⟩ := (show ∃ t, u = Value.int i t from ry); subst q; rfl
    | inr x => obtain ⟨t, q⟩ := (show ∃ t, u = Value.str x t from ry); subst q; rfl
  have ha : argsOk "dict.pop" ⟨.ref a :: u :: more, []⟩ := by
    rcases hm with q | ⟨x, q⟩
    · subst q; exact PySem.F.args_dict_pop_2 _ _
    · subst q; exact PySem.F.args_dict_pop_3 _ _ _
  refine call_meetsIn PySem.F.slot_dict_pop dd.typeIs PySem.F.entry_dict_pop ha (meets_dict_pop_there (mixKind X.prog X.w) a (kV_is ry) more hm hp)
    ⟨vs, w', dd, by rw [← rel.length]; exact z, hw, fun h' dd' hs => h w' _ ?_ rw'⟩
  have he : ∃ q, h'.get? a = some q := let ⟨q, _, _, hq, _⟩ := dd'; ⟨q, hq⟩
  exact d_write I (by rw [e]; exact True.intro) hs he (dk_new (Nat.le_trans (dropK_le kvs k) z) hd (rel.drop k) dd')
/-- d.pop(k, x), not there -/
theorem d_popD {r : Value} {Q : Value → Shared → Prop} (I : Inv X pins σ H s) (e : H a = some (.dK kvs)) (ry : RelV (kV k) u) (l : valV kvs k = none) (h : ∀ s', Inv X pins σ H s' → Q r s') :
    wpAny (model X.prog X.w) A (call (.builtin "dict.pop") [.ref a, u, r]) Q E s := by
  obtain ⟨z, hd, vs, rel, dd⟩ := dk_of I.hok e
  have hn : valueAt vs k = none := RelO.none_of (by rw [← l]; exact rel.val k)
  have hp : (keyPart u).isSome = true := by
    cases k with
    | inl i => obtain ⟨t, q⟩ := (show ∃ t, u = Value.int i t from ry); subst q; rfl
    | inr x => obtain ⟨t, q⟩ := (show ∃ t, u = Value.str x t from ry); subst q; rfl
  exact call_meetsIn PySem.F.slot_dict_pop dd.typeIs PySem.F.entry_dict_pop (PySem.F.args_dict_pop_3 _ _ _) (meets_dict_pop_default (mixKind X.prog X.w) a (kV_is ry) hd hp r) ⟨vs, dd, hn, h _ (I.tok _)⟩
/-- d.clear() -/
theorem d_clear {Q : Value → Shared → Prop} (I : Inv X pins σ H s) (e : H a = some (.dK kvs)) (h : ∀ s', Inv X pins σ (upd H a (.dK [])) s' → Q .none s') : wpAny (model X.prog X.w) A (call (.builtin "dict.clear") [.ref a]) Q E s := by
  obtain ⟨z, hd, vs, rel, dd⟩ := dk_of I.hok e
  refine call_meetsIn PySem.F.slot_dict_clear dd.typeIs PySem.F.entry_dict_clear (PySem.F.args_dict_clear_1 _) (meets_dict_clear (mixKind X.prog X.w) a) ⟨vs, dd, by rw [← rel.length]; exact z, fun h' dd' hs => h _ ?_⟩
  have he : ∃ q, h'.get? a = some q := let ⟨q, _, _, hq, _⟩ := dd'; ⟨q, hq⟩
  exact d_write (t' := s.toks) I (by rw [e]; exact True.intro) hs he (dk_new (Nat.zero_le _) hd .nil dd')
/-- len(d) -/
theorem d_len {Q : Value → Shared → Prop} (I : Inv X pins σ H s) (e : Rd H a (.dK kvs)) (h : ∀ t s', Inv X pins σ H s' → Q (.int kvs.length t) s') : wpAny (model X.prog X.w) A (call (.builtin "len") [.ref a]) Q E s := by
  obtain ⟨z, hd, vs, rel, dd⟩ := dk_rd I.hok e
  refine call_len_dict hd dd (by rw [← rel.length]; rw [sizeLine_eq] at z; omega) ?_
  rw [← rel.length]
  exact h _ _ (I.tok _)
/-- if d -/
theorem d_truth {Q : Bool → Shared → Prop} (I : Inv X pins σ H s) (e : Rd H a (.dK kvs)) (h : ∀ s', Inv X pins σ H s' → Q (!kvs.isEmpty) s') : wpAny (model X.prog X.w) A (truthy (.ref a)) Q E s := by
  obtain ⟨z, hd, vs, rel, dd⟩ := dk_rd I.hok e
  refine wpAny_truthy_dict hd dd (by rw [← rel.length]; rw [sizeLine_eq] at z; omega) ?_
  have q : kvs.isEmpty = vs.isEmpty := by cases rel <;> rfl
  rw [← q]
  exact h _ (I.tok _)
end


/-! ### readings and rules -/
/-- the element of a subscription, not a slice -/
def NoSl (i : Expr) : Prop := ∀ ov iv, subscripted i false ov iv = operate [ov, iv] (getItem ov iv)
theorem subD_of {prog : Program} {w : World} {A : Around} {E : Value → Shared → Prop} {s : Shared} {env : Env} {value slice : Expr} {pos : Pos} {T id : String} {Q : Value → Shared → Prop}
    (hl : typeLookup (.type T) "__getitem__" = pure (some (.builtin id))) (hs : NoSl slice)
    (h : wpAny (model prog w) A (eval value env) (fun o s₁ => wpAny (model prog w) A (eval slice env) (fun i s₂ => s₂.TypeIs o T ∧ wpAny (model prog w) A (getItem o i) Q E s₂) E s₁) E s) :
    wpAny (model prog w) A (eval (.Subscript value slice pos) env) Q E s := by
  refine Subscript_ (wpAny_mono h (fun o s₁ h₁ => wpAny_mono h₁ (fun i s₂ h₂ => ?_) fun _ _ x => x) fun _ _ x => x)
  obtain ⟨hT, h₂⟩ := h₂
  unfold subscriptTail
  refine wpAny_bind ?_
  rw [getitemInPython_of_ne hT.not_modules]
  refine wpAny_bind (wpAny_specialOf hT hl ?_)
  have fin : wpAny (model prog w) A (subscripted slice false o i) (fun r s₃ => wpAny (model prog w) A (letTemporaryGo value o r >>= fun _ => pure r) Q E s₃) E s₂ := by
    rw [hs o i]
    exact wpAny_operating (wpAny_mono h₂ (fun r s₃ h₃ => wpAny_bind (wpAny_letTemporaryGo (wpAny_pure h₃))) fun _ _ x => x)
  first
    | exact wpAny_pure (wpAny_bind fin)
    | exact wpAny_bind (wpAny_pure (wpAny_bind fin))
    | exact wpAny_bind fin

theorem dict_typeIs {X : Cx} {pins : List (Addr × Obj)} {σ : St} {H : Hp} {s : Shared} {a : Addr} {y : V} {o : Option V} (I : Inv X pins σ H s) (g : DGet H a y o) : s.TypeIs (.ref a) "dict" := by
  rcases g with ⟨kvs, k, e, _, _⟩ | ⟨kvs, k, b, e, _, _, _⟩
  · obtain ⟨_, _, vs, _, dd⟩ := dk_rd I.hok e
    exact dd.typeIs
  · obtain ⟨_, _, xs, _, dd⟩ := dt_rd I.hok e
    exact dd.typeIs
theorem dict_noDict {X : Cx} {pins : List (Addr × Obj)} {σ : St} {H : Hp} {s : Shared} {a : Addr} {y : V} {o : Option V} (I : Inv X pins σ H s) (g : DGet H a y o) :
    ∀ b, Value.ref a = .ref b → ∃ ob, s.heap.get? b = some ob ∧ ob.dict = none := fun b q => by
  cases q
  rcases g with ⟨kvs, k, e, _, _⟩ | ⟨kvs, k, b, e, _, _, _⟩
  · obtain ⟨_, _, vs, _, ob, _, _, h1, h2, _⟩ := dk_rd I.hok e
    exact ⟨ob, h1, h2.2.1⟩
  · obtain ⟨_, _, xs, _, ob, _, _, h1, h2, _⟩ := dt_rd I.hok e
    exact ⟨ob, h1, h2.2.1⟩

/-- d[y] -/
def tDGet (td ty : TE) : TE := fun σ H Q => td σ H fun x H1 => ty σ H1 fun y H2 => ∃ a v, x = .ref a ∧ DGet H2 a y (some v) ∧ Q v H2
/-- y in d, y not in d -/
def tDIn (ty td : TE) : TE := fun σ H Q => ty σ H fun y H1 => td σ H1 fun x H2 => ∃ a o, x = .ref a ∧ DGet H2 a y o ∧ Q (.bl o.isSome) H2
def tDNotIn (ty td : TE) : TE := fun σ H Q => ty σ H fun y H1 => td σ H1 fun x H2 => ∃ a o, x = .ref a ∧ DGet H2 a y o ∧ Q (.bl (!o.isSome)) H2
/-- d[y] = v -/
def sDPut (td ty tv : TE) : TS := fun D σ H => tv σ H fun v H1 => td σ H1 fun x H2 => ty σ H2 fun y H3 => ∃ a H4, x = .ref a ∧ DPut H3 a y v H4 ∧ D.nx σ H4
/-- d[y] op= v -/
def sDAug (td ty tv : TE) (rd : V → V → Hp → VK → Prop) : TS := fun D σ H => td σ H fun x H1 => ty σ H1 fun y H2 => ∃ a v, x = .ref a ∧ DGet H2 a y (some v) ∧
  tv σ H2 fun y2 H3 => rd v y2 H3 fun z H4 => ∃ H5, DPut H4 a y z H5 ∧ D.nx σ H5
/-- del d[y] -/
def sDDel (td ty : TE) : TS := fun D σ H => td σ H fun x H1 => ty σ H1 fun y H2 => ∃ a kvs k, x = .ref a ∧ H2 a = some (.dK kvs) ∧ y = kV k ∧ (valV kvs k).isSome = true ∧ D.nx σ (upd H2 a (.dK (dropK kvs k)))

section
variable {X : Cx} {o i e value : Expr} {pos pos' tpos : Pos} {td ty tv : TE}
theorem pe_dget (hu : X.A.units + 1 < cLine) (ho : PE X o td) (hi : PE X i ty) (hs : NoSl i) : PE X (.Subscript o i pos) (tDGet td ty) := by
  intro pins s σ H Q I h
  refine subD_of PySem.F.slot_dict_getitem.lookup hs (thn (ho pins s σ H _ I h) fun u s1 ⟨x, H1, I1, rx, q1⟩ => thn (hi pins s1 σ H1 _ I1 q1) fun iv s2 ⟨y, H2, I2, ry, a, v, ex, g, q2⟩ => ?_)
  subst ex
  obtain rfl : u = Value.ref a := rx
  exact ⟨dict_typeIs I2 g, d_getItem hu I2 g ry fun w' s3 I3 rw' => ⟨v, H2, I3, rw', q2⟩⟩
theorem pc_din (hu : X.A.units + 1 < cLine) (hi : PE X i ty) (ho : PE X o td) : PC X .In i o (tDIn ty td) := by
  intro pins s σ H Q I h
  refine thn (hi pins s σ H _ I h) fun iv s1 ⟨y, H1, I1, ry, q1⟩ => thn (ho pins s1 σ H1 _ I1 q1) fun u s2 ⟨x, H2, I2, rx, a, ov, ex, g, q2⟩ => ?_
  subst ex
  obtain rfl : u = Value.ref a := rx
  exact d_in hu I2 g ry fun s3 I3 => ⟨.bl ov.isSome, H2, I3, rfl, q2⟩
theorem pc_dnotin (hu : X.A.units + 1 < cLine) (hi : PE X i ty) (ho : PE X o td) : PC X .NotIn i o (tDNotIn ty td) := by
  intro pins s σ H Q I h
  refine thn (hi pins s σ H _ I h) fun iv s1 ⟨y, H1, I1, ry, q1⟩ => thn (ho pins s1 σ H1 _ I1 q1) fun u s2 ⟨x, H2, I2, rx, a, ov, ex, g, q2⟩ => ?_
  subst ex
  obtain rfl : u = Value.ref a := rx
  exact d_notIn hu I2 g ry fun s3 I3 => ⟨.bl (!ov.isSome), H2, I3, rfl, q2⟩
theorem ps_dput (hu : X.A.units + 1 < cLine) (ho : PE X o td) (hi : PE X i ty) (hv : PE X value tv) (hs : swapsWith value (some (.Subscript o i pos')) pos.line X.env = pure false) :
    PS X (.Assign [.Subscript o i pos'] value pos) (sDPut td ty tv) := by
  intro pins s σ H D I h
  refine wpAny_Assign_Subscript (thn (hv pins s σ H _ I h) fun r s1 ⟨v, H1, I1, rv, q1⟩ => thn (ho pins s1 σ H1 _ I1 q1) fun u s2 ⟨x, H2, I2, rx, q2⟩ => thn (hi pins s2 σ H2 _ I2 q2) fun iv s3 ⟨y, H3, I3, ry, a, H4, ex, g, q3⟩ => ?_) hs
  subst ex
  obtain rfl : u = Value.ref a := rx
  exact d_setItem hu I3 g ry rv fun s4 I4 => ⟨σ, H4, I4, q3⟩
theorem ps_daug {op : Operator} {rd : V → V → Hp → VK → Prop} (hu : X.A.units + 1 < cLine) (ho : PE X o td) (hi : PE X i ty) (hv : PE X value tv) (hop : InOp X op rd)
    (ha : ∀ ov iv new, augStore i ov iv new = (do holding [new, ov, iv] (setItem ov iv new); release [new, ov, iv] []; pure .next)) : PS X (.AugAssign (.Subscript o i tpos) op value pos) (sDAug td ty tv rd) := by
  intro pins s σ H D I h
  refine wpAny_AugAssign_SubscriptAny (thn (ho pins s σ H _ I h) fun u s1 ⟨x, H1, I1, rx, q1⟩ => thn (hi pins s1 σ H1 _ I1 q1) fun iv s2 ⟨y, H2, I2, ry, a, v, ex, g, q2⟩ => ?_) ha
  subst ex
  obtain rfl : u = Value.ref a := rx
  refine d_getItem hu I2 g ry fun w' s3 I3 rw' => thn (hv pins s3 σ H2 _ I3 q2) fun w2 s4 ⟨y2, H3, I4, ry2, q3⟩ => thn (hop pins s4 σ H3 v y2 w' w2 _ I4 rw' ry2 q3) fun w3 s5 ⟨z, H4, I5, rz, H5, g5, q4⟩ => ?_
  exact d_setItem hu I5 g5 ry rz fun s6 I6 => ⟨σ, H5, I6, q4⟩
theorem ps_ddel (ho : PE X o td) (hi : PE X i ty) : PS X (.Delete [.Subscript o i tpos] pos) (sDDel td ty) := by
  intro pins s σ H D I h
  refine wpAny_Delete (wpAny_deleteEach_cons (wpAny_delete_Subscript (thn (ho pins s σ H _ I h) fun u s1 ⟨x, H1, I1, rx, q1⟩ => thn (hi pins s1 σ H1 _ I1 q1) fun iv s2 ⟨y, H2, I2, ry, a, kvs, k, ex, e, ey, l, q2⟩ => ?_)))
  subst ex ey
  obtain rfl : u = Value.ref a := rx
  exact d_delItem I2 e ry l fun s3 I3 => wpAny_deleteEach_nil ⟨σ, _, I3, q2⟩
end


/-! ### displays -/
theorem dk_empty {P : Program} {w : World} {H : Hp} (h : Heap) (hb : sysModules < h.objs.size) : ObjOk P w H (h.push { cls := .type "dict", data := .dict #[] }) h.objs.size (.dK []) :=
  ⟨Nat.zero_le _, beq_eq_false_iff_ne.mpr (Ne.symm (Nat.ne_of_lt hb)), [], .nil, Heap.DictOf.new h⟩
theorem dt_empty {P : Program} {w : World} {H : Hp} (h : Heap) (hb : sysModules < h.objs.size) : ObjOk P w H (h.push { cls := .type "dict", data := .dict #[] }) h.objs.size (.dT []) :=
  ⟨Nat.zero_le _, beq_eq_false_iff_ne.mpr (Ne.symm (Nat.ne_of_lt hb)), [], .nil, _, #[], 0, Heap.get?_push_size _ rfl, ⟨rfl, rfl, rfl⟩, rfl, rfl, List.nodup_nil⟩
/-- {}, to be a dict of the kind that is wanted -/
def tDNewK : TE := fun _ H Q => ∀ p, H p = none → Q (.ref p) (upd H p (.dK []))
def tDNewT : TE := fun _ H Q => ∀ p, H p = none → Q (.ref p) (upd H p (.dT []))
section
variable {X : Cx} {pos : Pos}
theorem pe_dnewK : PE X (.Dict [] [] pos) tDNewK := fun pins s σ H Q I h =>
  wpAny_Dict_empty ⟨.ref s.heap.objs.size, _, I.laid (a := s.heap.objs.size) (o := .dK []) (t' := s.toks) (fun _ _ q => Heap.get?_push_of_some _ q) (Nat.le_refl _) (dk_empty s.heap I.big), rfl, h _ (I.hok.fresh (Nat.le_refl _))⟩
theorem pe_dnewT : PE X (.Dict [] [] pos) tDNewT := fun pins s σ H Q I h =>
  wpAny_Dict_empty ⟨.ref s.heap.objs.size, _, I.laid (a := s.heap.objs.size) (o := .dT []) (t' := s.toks) (fun _ _ q => Heap.get?_push_of_some _ q) (Nat.le_refl _) (dt_empty s.heap I.big), rfl, h _ (I.hok.fresh (Nat.le_refl _))⟩
end

/-- the pairs of a display, from the left -/
def tPairs : List (TE × TE) → St → Hp → (List (V × V) → Hp → Prop) → Prop
  | [], _, H, Q => Q [] H
  | (tk, tv) :: r, σ, H, Q => tk σ H fun x H1 => tv σ H1 fun y H2 => tPairs r σ H2 fun ps H3 => Q ((x, y) :: ps) H3
abbrev VV : List (V × V) → List (Value × Value) → Prop := Paired fun p q => RelV p.1 q.1 ∧ RelV p.2 q.2
def PPs (X : Cx) (pos : Pos) (keys : List (Option Expr)) (values : List Expr) (trs : List (TE × TE)) : Prop :=
  ∀ (pins : List (Addr × Obj)) (s : Shared) (σ : St) (H : Hp) (Q : List (V × V) → Hp → Prop), Inv X pins σ H s → tPairs trs σ H Q →
    wpAny (model X.prog X.w) X.A (evalPairs (pairTrees keys values X.env pos)) (fun vs s' => ∃ ps H', Inv X pins σ H' s' ∧ VV ps vs ∧ Q ps H') X.xe s
theorem pps_nil {X : Cx} {pos : Pos} : PPs X pos [] [] [] := fun pins s σ H Q I h => pairTrees_nil_walk ⟨[], H, I, .nil, h⟩
theorem pps_cons {X : Cx} {pos : Pos} {k v : Expr} {ks : List (Option Expr)} {vs : List Expr} {tk tv : TE} {trs : List (TE × TE)} (hk : PE X k tk) (hv : PE X v tv) (hr : PPs X pos ks vs trs) :
    PPs X pos (some k :: ks) (v :: vs) ((tk, tv) :: trs) := fun pins s σ H Q I h =>
  pairTrees_cons_walk (thn (hk pins s σ H _ I h) fun u s1 ⟨x, H1, I1, rx, q1⟩ => thn (hv pins s1 σ H1 _ I1 q1) fun w2 s2 ⟨y, H2, I2, ry, q2⟩ =>
    thn (hr pins s2 σ H2 _ I2 q2) fun ws s3 ⟨ps, H3, I3, rel, q3⟩ => ⟨(x, y) :: ps, H3, I3, .cons ⟨rx, ry⟩ rel, q3⟩)

def mergeK (kvs more : List (Key × V)) : List (Key × V) := more.foldl (fun acc kv => putK acc kv.1 kv.2) kvs
theorem KV.merge : ∀ {more : List (Key × V)} {rs : List (Key × Value)} {kvs : List (Key × V)} {vs : List (Key × Value)}, KV more rs → KV kvs vs → KV (mergeK kvs more) (merged vs rs) := by
  intro more rs kvs vs r
  unfold KV at r
  induction r generalizing kvs vs with
  | nil => intro q; exact q
  | @cons p q ps qs h t ih =>
    intro r0
    have e : KV (putK kvs p.1 p.2) (stored vs q.1 q.2) := by
      have := r0.put p.1 h.2
      rw [← h.1]; exact this
    exact ih e
theorem length_mergeK : ∀ (more kvs : List (Key × V)), (mergeK kvs more).length ≤ kvs.length + more.length
  | [], kvs => by show kvs.length ≤ kvs.length + 0; omega
  | p :: r, kvs => by
    have h1 := length_mergeK r (putK kvs p.1 p.2)
    have h2 := length_putK kvs p.1 p.2
    show (mergeK (putK kvs p.1 p.2) r).length ≤ _
    rw [List.length_cons]; omega
theorem carries_of {P : Program} {w : World} : ∀ {kvs : List (Key × V)} {ws : List (Value × Value)}, VV (kvs.map fun kv => (kV kv.1, kv.2)) ws → ∃ rs, Carries (mixKind P w) ws rs ∧ KV kvs rs
  | [], _, r => by rw [List.map_nil] at r; cases r; exact ⟨[], True.intro, .nil⟩
  | p :: kvs, _, r => by
    rw [List.map_cons] at r
    cases r with
    | @cons a b as bs h t =>
      obtain ⟨rs, c, q⟩ := carries_of (P := P) (w := w) t
      obtain ⟨b1, b2⟩ := b
      exact ⟨(p.1, b2) :: rs, ⟨kV_is h.1, rfl, c⟩, .cons ⟨rfl, h.2⟩ q⟩
/-- {k: v, ..} with keys ints and texts; the new dict stands empty while the pairs are made -/
def tDisp (trs : List (TE × TE)) : TE := fun σ H Q => ∀ p, H p = none → tPairs trs σ (upd H p (.dK [])) fun ps H2 => H2 p = some (.dK []) ∧ ∃ kvs : List (Key × V), ps = kvs.map (fun kv => (kV kv.1, kv.2)) ∧ kvs.length ≤ 15 ∧ Q (.ref p) (upd H2 p (.dK (mergeK [] kvs)))
theorem pe_disp {X : Cx} {pos : Pos} {keys : List (Option Expr)} {values : List Expr} {trs : List (TE × TE)} (h : PPs X pos keys values trs) (hall : keys.all (·.isSome) = true) (hl : keys.length = values.length) (h0 : keys ≠ [])
    (h15 : keys.length ≤ 15) : PE X (.Dict keys values pos) (tDisp trs) := by
  intro pins s σ H Q I q
  have hn := I.hok.fresh (Nat.le_refl s.heap.objs.size)
  have I1 := I.laid (a := s.heap.objs.size) (o := .dK []) (h' := s.heap.push { cls := .type "dict", data := .dict #[] }) (t' := s.toks) (fun _ _ q => Heap.get?_push_of_some _ q) (Nat.le_refl _) (dk_empty s.heap I.big)
  refine wpAny_Dict_walk (knd := mixKind X.prog X.w) hall hl h0 h15 (thn (h pins _ σ _ _ I1 (q _ hn)) fun ws s2 ⟨ps, H2, I2, rel, e, kvs, ep, lk, q2⟩ => ?_)
  subst ep
  obtain ⟨rs, c, rk⟩ := carries_of (P := X.prog) (w := X.w) rel
  obtain ⟨z, hd, vs0, r0, dd⟩ := dk_of I2.hok e
  cases r0
  refine ⟨rs, c, dd, fun h' dd' hs => ⟨.ref s.heap.objs.size, _, ?_, rfl, q2⟩⟩
  have hz : (mergeK [] kvs).length ≤ sizeLine := by
    have h1 := length_mergeK kvs []
    rw [List.length_nil] at h1
    rw [sizeLine_eq]; omega
  have he : ∃ q, h'.get? s.heap.objs.size = some q := let ⟨q, _, _, hq, _⟩ := dd'; ⟨q, hq⟩
  exact d_write I2 (by rw [e]; exact True.intro) hs he (dk_new hz hd (rk.merge .nil) dd')


/-! ### methods -/
/-- a method call o.m(e) of a built-in, with one argument: what must be seen of the text -/
structure M1 (X : Cx) (o : Expr) (m : Str) (apos : Pos) (e : Expr) (cpos : Pos) : Prop where
  base : attributeBase o m X.env (eval o X.env) = eval o X.env
  few : ((backTo cpos (starEach [e] X.env)).all (fun x => !x.1) && (backToKw cpos (keywordEach [] X.env)).all (fun x => x.1.isSome)
    && decide (([e] : List Expr).length + ([] : List Keyword).length + (if ([] : List Keyword).isEmpty then 0 else 1) < 30)) = true
  line : (apos.endLine == cpos.line) = true
  trees : backTo cpos (starEach [e] X.env) = [(false, eval e X.env)]
structure M2 (X : Cx) (o : Expr) (m : Str) (apos : Pos) (e f : Expr) (cpos : Pos) : Prop where
  base : attributeBase o m X.env (eval o X.env) = eval o X.env
  few : ((backTo cpos (starEach [e, f] X.env)).all (fun x => !x.1) && (backToKw cpos (keywordEach [] X.env)).all (fun x => x.1.isSome)
    && decide (([e, f] : List Expr).length + ([] : List Keyword).length + (if ([] : List Keyword).isEmpty then 0 else 1) < 30)) = true
  line : (apos.endLine == cpos.line) = true
  trees : backTo cpos (starEach [e, f] X.env) = [(false, eval e X.env), (false, eval f X.env)]

/-- a is a dict, whatever its keys -/
def IsD (H : Hp) (a : Addr) : Prop := (∃ kvs, Rd H a (.dK kvs)) ∨ ∃ kvs, Rd H a (.dT kvs)
theorem isD_at {X : Cx} {pins : List (Addr × Obj)} {σ : St} {H : Hp} {s : Shared} {a : Addr} (I : Inv X pins σ H s) (d : IsD H a) :
    s.TypeIs (.ref a) "dict" ∧ (∀ b, Value.ref a = .ref b → ∃ ob, s.heap.get? b = some ob ∧ ob.dict = none) ∧ (a == sysModules) = false := by
  rcases d with ⟨kvs, e⟩ | ⟨kvs, e⟩
  · obtain ⟨_, hd, vs, _, dd⟩ := dk_rd I.hok e
    refine ⟨dd.typeIs, fun b q => ?_, hd⟩
    cases q
    obtain ⟨ob, _, _, h1, h2, _⟩ := dd
    exact ⟨ob, h1, h2.2.1⟩
  · obtain ⟨_, hd, xs, _, dd⟩ := dt_rd I.hok e
    refine ⟨dd.typeIs, fun b q => ?_, hd⟩
    cases q
    obtain ⟨ob, _, _, h1, h2, _⟩ := dd
    exact ⟨ob, h1, h2.2.1⟩

section
variable {X : Cx} {pins : List (Addr × Obj)} {σ : St} {H : Hp} {s : Shared} {a : Addr} {y d : V} {u r : Value} {o : Option V} {A : Around} {E : Value → Shared → Prop}
/-- d.get(y) -/
theorem d_get1 {Q : Value → Shared → Prop} (hu : A.units + 1 < cLine) (I : Inv X pins σ H s) (g : DGet H a y o) (ry : RelV y u) (h : ∀ w' s', Inv X pins σ H s' → RelV (o.getD .non) w' → Q w' s') :
    wpAny (model X.prog X.w) A (call (.builtin "dict.get") [.ref a, u]) Q E s := by
  rcases g with ⟨kvs, k, e, ey, l⟩ | ⟨kvs, k, b, e, ey, eb, l⟩
  · subst ey
    obtain ⟨z, hd, vs, rel, dd⟩ := dk_rd I.hok e
    refine call_meetsIn PySem.F.slot_dict_get dd.typeIs PySem.F.entry_dict_get (PySem.F.args_dict_get_2 _ _) (meets_dict_get (mixKind X.prog X.w) a (kV_is ry) hd) ⟨_, dd.mapOf, h _ _ (I.tok _) ?_⟩
    rw [l]
    exact (rel.val k).getD rfl
  · subst ey
    cases (show u = Value.ref b from ry)
    obtain ⟨z, hd, xs, rel, dd⟩ := dt_rd I.hok e
    refine call_meetsIn PySem.F.slot_dict_get dd.typeIs PySem.F.entry_dict_get (PySem.F.args_dict_get_2 _ _) (meetsH_dict_get (tupleKind (mixKind X.prog X.w)) a b hd) ⟨tupleKind_room_in1 hu, k, xs, key_of I.hok eb, dd, h _ _ (I.tok _) ?_⟩
    rw [l]
    exact (rel.val k).getD rfl
/-- d.get(y, x) -/
theorem d_get2 {Q : Value → Shared → Prop} (hu : A.units + 1 < cLine) (I : Inv X pins σ H s) (g : DGet H a y o) (ry : RelV y u) (rd : RelV d r) (h : ∀ w' s', Inv X pins σ H s' → RelV (o.getD d) w' → Q w' s') :
    wpAny (model X.prog X.w) A (call (.builtin "dict.get") [.ref a, u, r]) Q E s := by
  rcases g with ⟨kvs, k, e, ey, l⟩ | ⟨kvs, k, b, e, ey, eb, l⟩
  · subst ey
    obtain ⟨z, hd, vs, rel, dd⟩ := dk_rd I.hok e
    refine call_meetsIn PySem.F.slot_dict_get dd.typeIs PySem.F.entry_dict_get (PySem.F.args_dict_get_3 _ _ _) (meets_dict_get_default (mixKind X.prog X.w) a (kV_is ry) hd r) ⟨_, dd.mapOf, h _ _ (I.tok _) ?_⟩
    rw [l]
    exact (rel.val k).getD rd
  · subst ey
    cases (show u = Value.ref b from ry)
    obtain ⟨z, hd, xs, rel, dd⟩ := dt_rd I.hok e
    refine call_meetsIn PySem.F.slot_dict_get dd.typeIs PySem.F.entry_dict_get (PySem.F.args_dict_get_3 _ _ _) (meetsH_dict_get_default (tupleKind (mixKind X.prog X.w)) a b hd r) ⟨tupleKind_room_in1 hu, k, xs, key_of I.hok eb, dd, h _ _ (I.tok _) ?_⟩
    rw [l]
    exact (rel.val k).getD rd
end

def tDGet1 (td ty : TE) : TE := fun σ H Q => td σ H fun x H1 => ∃ a, x = .ref a ∧ IsD H1 a ∧ ty σ H1 fun y H2 => ∃ o, DGet H2 a y o ∧ Q (o.getD .non) H2
def tDGet2 (td ty tx : TE) : TE := fun σ H Q => td σ H fun x H1 => ∃ a, x = .ref a ∧ IsD H1 a ∧ ty σ H1 fun y H2 => tx σ H2 fun z H3 => ∃ o, DGet H3 a y o ∧ Q (o.getD z) H3
/-- d.pop(k): there; d.pop(k, x): there or not -/
def tDPop1 (td ty : TE) : TE := fun σ H Q => td σ H fun x H1 => ∃ a, x = .ref a ∧ IsD H1 a ∧ ty σ H1 fun y H2 => ∃ kvs k v, H2 a = some (.dK kvs) ∧ y = kV k ∧ valV kvs k = some v ∧ Q v (upd H2 a (.dK (dropK kvs k)))
def tDPop2 (td ty tx : TE) : TE := fun σ H Q => td σ H fun x H1 => ∃ a, x = .ref a ∧ IsD H1 a ∧ ty σ H1 fun y H2 => tx σ H2 fun z H3 => ∃ kvs k, H3 a = some (.dK kvs) ∧ y = kV k ∧
  (∀ v, valV kvs k = some v → Q v (upd H3 a (.dK (dropK kvs k)))) ∧ (valV kvs k = none → Q z H3)
section
variable {X : Cx} {o e f : Expr} {apos cpos : Pos} {td ty tx : TE}
theorem pe_dget1 (hu : X.A.units + 1 < cLine) (ho : PE X o td) (he : PE X e ty) (m : M1 X o "get" apos e cpos) : PE X (.Call (.Attribute o "get" apos) [e] [] cpos) (tDGet1 td ty) := by
  intro pins s σ H Q I h
  refine wpAny_Call_method m.base m.few m.line PySem.F.plainAttrs_dict PySem.F.slot_dict_get PySem.F.type_dict_get (thn (ho pins s σ H _ I h) fun u s1 ⟨x, H1, I1, rx, a, ex, d, q1⟩ => ?_)
  subst ex
  obtain rfl : u = Value.ref a := rx
  obtain ⟨t1, t2, _⟩ := isD_at I1 d
  refine ⟨t1, t2, ?_⟩
  rw [m.trees]
  refine Calls.callWith_builtin rfl (Calls.evalArgs_plain (Calls.spliced_cons (thn (he pins s1 σ H1 _ I1 q1) fun iv s2 ⟨y, H2, I2, ry, ov, g, q2⟩ => Calls.spliced_nil ?_)))
  exact d_get1 hu I2 g ry fun w' s3 I3 rw' => ⟨_, H2, I3, rw', q2⟩
theorem pe_dget2 (hu : X.A.units + 1 < cLine) (ho : PE X o td) (he : PE X e ty) (hf : PE X f tx) (m : M2 X o "get" apos e f cpos) : PE X (.Call (.Attribute o "get" apos) [e, f] [] cpos) (tDGet2 td ty tx) := by
  intro pins s σ H Q I h
  refine wpAny_Call_method m.base m.few m.line PySem.F.plainAttrs_dict PySem.F.slot_dict_get PySem.F.type_dict_get (thn (ho pins s σ H _ I h) fun u s1 ⟨x, H1, I1, rx, a, ex, d, q1⟩ => ?_)
  subst ex
  obtain rfl : u = Value.ref a := rx
  obtain ⟨t1, t2, _⟩ := isD_at I1 d
  refine ⟨t1, t2, ?_⟩
  rw [m.trees]
  refine Calls.callWith_builtin rfl (Calls.evalArgs_plain (Calls.spliced_cons (thn (he pins s1 σ H1 _ I1 q1) fun iv s2 ⟨y, H2, I2, ry, q2⟩ =>
    Calls.spliced_cons (thn (hf pins s2 σ H2 _ I2 q2) fun fv s3 ⟨z, H3, I3, rz, ov, g, q3⟩ => Calls.spliced_nil ?_))))
  exact d_get2 hu I3 g ry rz fun w' s4 I4 rw' => ⟨_, H3, I4, rw', q3⟩
theorem pe_dpop1 (ho : PE X o td) (he : PE X e ty) (m : M1 X o "pop" apos e cpos) : PE X (.Call (.Attribute o "pop" apos) [e] [] cpos) (tDPop1 td ty) := by
  intro pins s σ H Q I h
  refine wpAny_Call_method m.base m.few m.line PySem.F.plainAttrs_dict PySem.F.slot_dict_pop PySem.F.type_dict_pop (thn (ho pins s σ H _ I h) fun u s1 ⟨x, H1, I1, rx, a, ex, d, q1⟩ => ?_)
  subst ex
  obtain rfl : u = Value.ref a := rx
  obtain ⟨t1, t2, _⟩ := isD_at I1 d
  refine ⟨t1, t2, ?_⟩
  rw [m.trees]
  refine Calls.callWith_builtin rfl (Calls.evalArgs_plain (Calls.spliced_cons (thn (he pins s1 σ H1 _ I1 q1) fun iv s2 ⟨y, H2, I2, ry, kvs, k, v, ea, ey, l, q2⟩ => Calls.spliced_nil ?_)))
  subst ey
  exact d_pop I2 ea ry l (.inl rfl) fun w' s3 I3 rw' => ⟨v, _, I3, rw', q2⟩
theorem pe_dpop2 (ho : PE X o td) (he : PE X e ty) (hf : PE X f tx) (m : M2 X o "pop" apos e f cpos) : PE X (.Call (.Attribute o "pop" apos) [e, f] [] cpos) (tDPop2 td ty tx) := by
  intro pins s σ H Q I h
  refine wpAny_Call_method m.base m.few m.line PySem.F.plainAttrs_dict PySem.F.slot_dict_pop PySem.F.type_dict_pop (thn (ho pins s σ H _ I h) fun u s1 ⟨x, H1, I1, rx, a, ex, d, q1⟩ => ?_)
  subst ex
  obtain rfl : u = Value.ref a := rx
  obtain ⟨t1, t2, _⟩ := isD_at I1 d
  refine ⟨t1, t2, ?_⟩
  rw [m.trees]
  refine Calls.callWith_builtin rfl (Calls.evalArgs_plain (Calls.spliced_cons (thn (he pins s1 σ H1 _ I1 q1) fun iv s2 ⟨y, H2, I2, ry, q2⟩ =>
    Calls.spliced_cons (thn (hf pins s2 σ H2 _ I2 q2) fun fv s3 ⟨z, H3, I3, rz, kvs, k, ea, ey, q3, q4⟩ => Calls.spliced_nil ?_))))
  subst ey
  cases l : valV kvs k with
  | some v => exact d_pop I3 ea ry l (.inr ⟨fv, rfl⟩) fun w' s4 I4 rw' => ⟨v, _, I4, rw', q3 v l⟩
  | none => exact d_popD I3 ea ry l fun s4 I4 => ⟨z, H3, I4, rz, q4 l⟩
end

/-! ### dict(d): a copy -/
section
variable {X : Cx} {pins : List (Addr × Obj)} {σ : St} {H : Hp} {s : Shared} {a : Addr} {kvs : List (Key × V)} {A : Around} {E : Value → Shared → Prop}
theorem d_copyOf {Q : Value → Shared → Prop} (I : Inv X pins σ H s) (e : Rd H a (.dK kvs)) (h : ∀ p s', H p = none → Inv X pins σ (upd H p (.dK kvs)) s' → Q (.ref p) s') : wpAny (model X.prog X.w) A (call (.type "dict") [.ref a]) Q E s := by
  obtain ⟨z, hd, vs, rel, dd⟩ := dk_rd I.hok e
  refine kt_call_dict hd dd (by rw [← rel.length]; exact z) fun h' dd' hs => ?_
  refine h _ _ (I.hok.fresh (Nat.le_refl _)) (I.laid (a := s.heap.objs.size) (o := .dK kvs) (t' := s.toks) (fun b q hq => ?_) (Nat.le_refl _) (dk_new z (beq_eq_false_iff_ne.mpr (Ne.symm (Nat.ne_of_lt I.big))) rel dd'))
  exact (hs.2 b (Nat.ne_of_lt (Heap.lt_size hq))).trans (Heap.get?_push_of_some _ hq)
end


section
variable {X : Cx} {pins : List (Addr × Obj)} {σ : St} {H : Hp} {s : Shared} {a : Addr} {y : V} {u : Value} {A : Around} {E : Value → Shared → Prop}
/-- d[y], not there: a KeyError -/
theorem d_missing {Q : Value → Shared → Prop} (hu : A.units + 1 < cLine) (hh : A.handled = none) (I : Inv X pins σ H s) (g : DGet H a y none) (ry : RelV y u)
    (h : ∀ h' e t', Heap.NewExc s.heap h' e "KeyError" → E (.ref e) { s with heap := h', toks := t' }) : wpAny (model X.prog X.w) A (getItem (.ref a) u) Q E s := by
  rcases g with ⟨kvs, k, e, ey, l⟩ | ⟨kvs, k, b, e, ey, eb, l⟩
  · subst ey
    obtain ⟨z, hd, vs, rel, dd⟩ := dk_rd I.hok e
    have hn : valueAt vs k = none := RelO.none_of (by rw [l]; exact rel.val k)
    exact wpAny_getItem_missing_of (kV_is ry) hd hh dd.mapOf hn fun h' ex ne => h h' ex _ ne
  · subst ey
    cases (show u = Value.ref b from ry)
    obtain ⟨z, hd, xs, rel, dd⟩ := dt_rd I.hok e
    have hn : (atKey xs k).map (·.2) = none := RelO.none_of (by rw [l]; exact rel.val k)
    exact wpAny_getItem_missing_heap (tupleKind_room_in1 hu) (key_of I.hok eb) hd hh dd (Option.map_eq_none_iff.mp hn) fun h' ex ne => h h' ex _ ne
end
end L2
namespace L2
open PySem PySem.Spec PyProof.Rows
section
variable {X : Cx}
/-- len of a dict -/
theorem call_lenD : CallR X (.builtin "len") (fun xs H Q => ∃ a kvs, xs = [V.ref a] ∧ H a = some (.dK kvs) ∧ Q (.int kvs.length) H) := by
  intro pins s σ H xs us Q I r h
  obtain ⟨a, kvs, rfl, ha, q⟩ := h
  obtain ⟨u, rfl, ru⟩ := vals1 r
  cases ru
  exact d_len I (.inl ha) fun t s' I' => ⟨.int kvs.length, H, I', ⟨t, rfl⟩, q⟩
end
/-! ### a dict's pairs: keys that differ -/
section
variable {κ : Type} [DecidableEq κ]
theorem valV_not {kvs : List (κ × V)} {k : κ} (h : valV kvs k = none) : ¬ k ∈ kvs.map (·.1) := by
  intro m
  obtain ⟨p, hp, e⟩ := List.mem_map.mp m
  have q : (kvs.any fun kv => decide (kv.1 = k)) = true := List.any_eq_true.mpr ⟨p, hp, decide_eq_true e⟩
  rw [valV_any, h] at q
  exact absurd q (by simp)
theorem valV_in {kvs : List (κ × V)} {k : κ} {v : V} (h : valV kvs k = some v) : k ∈ kvs.map (·.1) := by
  have q : (kvs.any fun kv => decide (kv.1 = k)) = true := by
    rw [valV_any, h]
    all_goals rfl
  obtain ⟨p, hp, e⟩ := List.any_eq_true.mp q
  exact List.mem_map.mpr ⟨p, hp, of_decide_eq_true e⟩
theorem nd_snoc : ∀ {l : List κ} {k : κ}, l.Nodup → ¬ k ∈ l → (l ++ [k]).Nodup
  | [], k, _, _ => by simp
  | a :: r, k, h, hk => by
    obtain ⟨h1, h2⟩ := List.nodup_cons.mp h
    show (a :: (r ++ [k])).Nodup
    refine List.nodup_cons.mpr ⟨fun m => ?_, nd_snoc h2 fun m => hk (List.mem_cons.mpr (Or.inr m))⟩
    rcases List.mem_append.mp m with q | q
    · exact h1 q
    · exact hk (List.mem_cons.mpr (Or.inl (List.mem_singleton.mp q).symm))
theorem nd_putK {kvs : List (κ × V)} {k : κ} (v : V) (hn : (kvs.map (·.1)).Nodup) (h : valV kvs k = none) : ((putK kvs k v).map (·.1)).Nodup := by
  rw [putK_new v h, List.map_append]
  exact nd_snoc hn (valV_not h)
theorem dropK_pos {p : κ × V} {r : List (κ × V)} {k : κ} (e : p.1 = k) : dropK (p :: r) k = dropK r k := by
  unfold dropK
  rw [List.filter_cons, if_neg (by simp [e])]
theorem dropK_neg {p : κ × V} {r : List (κ × V)} {k : κ} (e : ¬ p.1 = k) : dropK (p :: r) k = p :: dropK r k := by
  unfold dropK
  rw [List.filter_cons, if_pos (by simp [e])]
theorem dropK_no : ∀ {kvs : List (κ × V)} {k : κ}, ¬ k ∈ kvs.map (·.1) → dropK kvs k = kvs
  | [], _, _ => rfl
  | p :: r, k, h => by
    have h' : ¬ k ∈ r.map (·.1) := fun m => by
      obtain ⟨q, hq, e⟩ := List.mem_map.mp m
      exact h (List.mem_map.mpr ⟨q, List.mem_cons.mpr (Or.inr hq), e⟩)
    rw [dropK_neg fun e => h (List.mem_map.mpr ⟨p, List.mem_cons.mpr (Or.inl rfl), e⟩), dropK_no h']
theorem dropK_mem {kvs : List (κ × V)} {k : κ} {p : κ × V} (h : p ∈ dropK kvs k) : p ∈ kvs := (List.mem_filter.mp h).1
theorem nd_dropK : ∀ {kvs : List (κ × V)} {k : κ}, (kvs.map (·.1)).Nodup → ((dropK kvs k).map (·.1)).Nodup
  | [], _, _ => List.nodup_nil
  | p :: r, k, h => by
    have h : (p.1 :: r.map (·.1)).Nodup := h
    obtain ⟨h1, h2⟩ := List.nodup_cons.mp h
    by_cases e : p.1 = k
    · rw [dropK_pos e]
      exact nd_dropK h2
    · rw [dropK_neg e]
      show (p.1 :: (dropK r k).map (·.1)).Nodup
      refine List.nodup_cons.mpr ⟨fun m => h1 ?_, nd_dropK h2⟩
      obtain ⟨q, hq, eq⟩ := List.mem_map.mp m
      exact List.mem_map.mpr ⟨q, dropK_mem hq, eq⟩
theorem dropK_len : ∀ {kvs : List (κ × V)} {k : κ}, (kvs.map (·.1)).Nodup → k ∈ kvs.map (·.1) → (dropK kvs k).length + 1 = kvs.length
  | [], _, _, m => by simp at m
  | p :: r, k, h, m => by
    have h : (p.1 :: r.map (·.1)).Nodup := h
    have m : k = p.1 ∨ k ∈ r.map (·.1) := List.mem_cons.mp m
    obtain ⟨h1, h2⟩ := List.nodup_cons.mp h
    by_cases e : p.1 = k
    · subst e
      rw [dropK_pos rfl, dropK_no h1]
      all_goals rfl
    · have m' : k ∈ r.map (·.1) := m.resolve_left fun z => e z.symm
      have q := dropK_len h2 m'
      rw [dropK_neg e, List.length_cons, List.length_cons]
      omega
end
end L2

set_option Elab.async false
set_option linter.all false
set_option maxRecDepth 100000
set_option maxHeartbeats 4000000
/-! dict(t), t a tuple of pairs whose first is a text -/
namespace L2
open PySem PySem.Spec PyProof.Rows
theorem keys_miss {prog : Program} {w : World} {A : Around} {E : Value → Shared → Prop} {s : Shared} {a : Addr} {items : Array Value} {Q : Option Value → Shared → Prop} (hL : s.heap.IsTuple a items) (hn : ∀ o, s.heap.get? a = some o → o.dict = none) (hA : A.handled = none)
    (h : ∀ h' tk, (∀ b ob, s.heap.get? b = some ob → h'.get? b = some ob) → Q none { s with heap := h', toks := tk }) : wpAny (model prog w) A (getAttr? (.ref a) "keys") Q E s := by
  obtain ⟨⟨c, dct, dat, sl⟩, hx, hc, k, hd⟩ := hL
  have hdn := hn _ hx
  simp only at hc hd hdn
  subst hc hd hdn
  obtain ⟨hp, g, d, tk, os⟩ := s
  have hT : ∀ tk', (⟨hp, g, d, tk', os⟩ : Shared).TypeIs (.ref a) "tuple" := fun _ => ⟨_, hx, rfl⟩
  have f1 := sub_AttributeError
  have f3 := F.slot_tuple_getattribute.lookup
  have f4 := F.slot_tuple_getattribute.bind (.ref a)
  have f5 := am_tuple_getattr_none
  have hmiss : typeLookup (.type "tuple") "keys" = pure none := am_miss_of_fast (by decide +kernel)
  unfold getAttr? getAttrBy? getAttrBy
  repeat (any_goals (first | assumption | exact hT _ | ((with_reducible show wpAny _ _ (call (Value.builtin "tuple.__getattribute__") _ _) _ _ _); refine call_meets F.slot_tuple_getattribute (hT _) am_entry_tuple_getattribute (F.args_tuple_getattribute_2 _ _) (meets_getattribute_miss_tuple a items k sl "keys" _ hmiss (by decide +kernel) (by decide +kernel)) ⟨hx, hA, fun h' tk' e hx' => ?_⟩) | wp_step))
  obtain ⟨t', u', he⟩ := hx'.there
  show wpAny _ _ (getattributeRaised _ _ _ _ _ _ _) _ _ _
  unfold getattributeRaised
  repeat (any_goals (first | assumption | wp_step))
  exact h _ _ hx'.keeps
theorem entry_dul : entryFor table "dict.update.loop" = some Builtin.«dict.update.loop» := entryFor_of_fast (by kernel_rfl)
theorem plain_dul : plainId "dict.update.loop" = true := by decide +kernel
section
variable {X : Cx}
/-- a tuple display, known to the object -/
def tTupF (t : TA) : TE := fun σ H Q => t σ H fun xs H1 => xs.length ≤ sizeLine ∧ ∀ p (o : Obj), H1 p = none → o.dict = none → Q (.ref p) (upd H1 p (.frz o (.tup xs)))
theorem pe_tupF {x1} {es : List Expr} {t : TA} {pos : Pos} (h : PA X es t) : PE X (.Tuple es x1 pos) (tTupF t) := by
  intro pins s σ H Q I hq
  refine wpAny_Tuple_spliced (thn (h pos pins s σ H _ I hq) fun us s1 ⟨xs, H1, I1, r, z, q⟩ => ⟨by rw [← r.length]; exact z, ?_⟩)
  have hf : H1 s1.heap.objs.size = none := I1.hok.fresh (Nat.le_refl _)
  refine ⟨.ref s1.heap.objs.size, _, I1.laid (t' := s1.toks) (fun b u e => Heap.get?_push_of_some _ e) (Nat.le_refl _) ?_, rfl, q _ { cls := .type "tuple", data := .seq us.toArray } hf rfl⟩
  exact ⟨Heap.get?_push_size _ rfl, z, us, r, ⟨_, Heap.get?_push_size _ rfl, rfl, _, rfl⟩⟩
def foldP (ps : List (Str × V)) (m : List (Key × V)) : List (Key × V) := ps.foldl (fun m p => putK m (Sum.inr p.1) p.2) m
theorem dict_loop (hc : X.calm = true) {A : Around} (hA : A.handled = none) {pins : List (Addr × Obj)} {σ : St} {H0 : Hp} {Q : VK} {a d it : Addr} {vs : List V} (hda : d ≠ a) (hit : it ≠ a) (hdi : d ≠ it) :
    ∀ (n i : Nat) (s : Shared) (m : List (Key × V)) (ps : List (Str × V)) (j : Int) (tk : Tok), n = vs.length - i → Inv X pins σ (upd H0 d (.dK m)) s → s.heap.IsTupleIter it a i → FpOk X pins (upd H0 d (.dK m)) it → SqT X.K (upd H0 d (.dK m)) a vs →
      Paired (fun v (p : Str × V) => ∃ t, v = .ref t ∧ t ≠ d ∧ SqT X.K H0 t [.str p.1, p.2]) (vs.drop i) ps → m.length + ps.length ≤ 1000 → H0 it = none →
      Q (.ref d) (upd H0 d (.dK (foldP ps m))) → codeAny (model X.prog X.w) A (.builtin "dict.update.loop" ⟨[.ref d, .ref it, .int j tk, .none], []⟩) (wants (fun u s' => u = .none ∧ ∃ H', Inv X pins σ H' s' ∧ Q (.ref d) H') (fun _ _ => False)) s := by
  intro n
  induction n with
  | zero =>
    intro i s m ps j tk hn I st fp hsq hp hlen hn0 q
    have hd : vs.drop i = [] := List.drop_eq_nil_of_le (by omega)
    rw [hd] at hp
    cases hp
    obtain ⟨its, rv, pt, hz⟩ := I.tuple hsq
    have hl := rv.length
    obtain ⟨f0, f1, f2, f3, f4, f5⟩ := fp
    refine codeAny_builtin entry_dul ?_
    rw [Around.under_plainId plain_dul _]
    show wpAny _ A.in1 (pyNext (.ref it) >>= _) _ _ s
    refine wpAny_bind (wpAny_pyNext_tuple_end (A := A.in1) hA st (show s.heap.IsTuple a its.toArray from pt) (by simp; omega) fun h' eb => ?_)
    have I' : Inv X pins σ (upd H0 d (.dK m)) { s with heap := h' } := I.turned (t' := s.toks) (fun b o hb e => eb b o hb e) f0 f1 f3 f4 f5
    show wpAny _ _ (Builtin.Dict.addKeywords d [] >>= _) _ _ _
    exact wpAny_bind (wpAny_pure (wpAny_pure ⟨rfl, _, I', q⟩))
  | succ n ih =>
    intro i s m ps j tk hn I st fp hsq hp hlen hn0 q
    have hi : i < vs.length := by omega
    have hdr : vs.drop i = vs[i] :: vs.drop (i + 1) := List.drop_eq_getElem_cons hi
    rw [hdr] at hp
    cases hp with
    | @cons _ p _ ps' h1 hrest =>
    obtain ⟨t, e, htd, ht⟩ := h1
    obtain ⟨its, rv, pt, hz⟩ := I.tuple hsq
    have hl := rv.length
    have hx : vs[i]? = some (V.ref t) := by simp [hi, e]
    obtain ⟨u, hu, ru⟩ := rv.get hx
    cases ru
    obtain ⟨f0, f1, f2, f3, f4, f5⟩ := id fp
    refine codeAny_builtin entry_dul ?_
    rw [Around.under_plainId plain_dul _]
    show wpAny _ A.in1 (pyNext (.ref it) >>= _) _ _ s
    refine wpAny_bind (wpAny_pyNext_tuple_item (A := A.in1) st (show s.heap.IsTuple a its.toArray from pt) (x := .ref t) (by simpa using hu) fun h' st' sb => ?_)
    have I' : Inv X pins σ (upd H0 d (.dK m)) { s with heap := h' } := I.turned (t' := s.toks) (fun b o hb e => (sb.2 b hb).trans e) f0 f1 f3 f4 f5
    have ht' : SqT X.K (upd H0 d (.dK m)) t [.str p.1, p.2] := by
      rcases ht with (ht | ⟨o, ht⟩) | ht
      · exact .inl (.inl (by rw [upd_ne htd]; exact ht))
      · exact .inl (.inr ⟨o, by rw [upd_ne htd]; exact ht⟩)
      · exact .inr ht
    obtain ⟨kv, rkv, ptt, _⟩ := I'.tuple ht'
    cases rkv with
    | @cons _ ku _ _ rk rr =>
    cases rr with
    | @cons _ vu _ _ rvv rr =>
    cases rr
    obtain ⟨tk2, rfl⟩ := rk
    have hTy : (⟨h', s.gens, s.drawn, s.toks, s.os⟩ : Shared).TypeIs (.ref t) "tuple" := by obtain ⟨o, ho, hcl, _⟩ := ptt; exact ⟨o, ho, hcl⟩
    dsimp only
    obtain ⟨ot, hot, hoc, kt, hodat⟩ := ptt
    obtain ⟨z, hsm, ws, rel, dd⟩ := dk_of I'.hok (upd_same (H := H0) (a := d) (o := .dK m))
    have hz2 : ws.length ≤ sizeLine := by rw [← rel.length]; exact z
    refine wpAny_bind (wpAny_holding (wpAny_bind (wpAny_tryCatch ?_)))
    unfold Builtin.Dict.pairItems
    refine wpAny_bind (wpAny_typeOf hTy ?_)
    rw [if_pos (by decide)]
    refine wpAny_bind (wpAny_seqItems hot hodat (wpAny_pure ?_))
    show wpAny _ _ (holding [Value.str p.1 tk2, vu] (dictSet d (Value.str p.1 tk2) vu)) _ _ _
    refine wpAny_holding (wpAny_dictSet_pairs (knd := mixKind X.prog X.w) (k := Sum.inr p.1) (mixKind_str X.prog X.w p.1 tk2) dd (fun h2 dd2 sb2 => ?_) hz2)
    have hl2 : (putK m (Sum.inr p.1) p.2).length ≤ sizeLine := by
      have h3 := length_putK m (Sum.inr p.1) p.2
      have : sizeLine = 16777216 := sizeLine_eq
      simp only [List.length_cons] at hlen
      omega
    have he : ∃ q, h2.get? d = some q := let ⟨q, _, _, hq, _⟩ := dd2; ⟨q, hq⟩
    have I2 : Inv X pins σ (upd (upd H0 d (.dK m)) d (.dK (putK m (Sum.inr p.1) p.2))) { heap := h2, gens := s.gens, drawn := s.drawn, toks := s.toks + 1, os := s.os } :=
      d_write (s := { heap := h', gens := s.gens, drawn := s.drawn, toks := s.toks, os := s.os }) (t' := s.toks + 1) I' (by rw [upd_same]; exact True.intro) sb2 he (dk_new hl2 hsm (rel.put _ rvv) dd2)
    rw [upd_upd] at I2
    refine wpAny_pure ⟨plainId_quiet plain_dul _, ?_⟩
    have hsq2 : SqT X.K (upd H0 d (.dK (putK m (Sum.inr p.1) p.2))) a vs := by
      rcases hsq with (h | ⟨o, h⟩) | h
      · rw [upd_ne hda.symm] at h; exact .inl (.inl (by rw [upd_ne hda.symm]; exact h))
      · rw [upd_ne hda.symm] at h; exact .inl (.inr ⟨o, by rw [upd_ne hda.symm]; exact h⟩)
      · exact .inr h
    refine ih (i + 1) _ (putK m (Sum.inr p.1) p.2) ps' (j + 1) _ (by omega) I2 ?_ ⟨by rw [upd_ne hdi.symm]; exact hn0, f1, f2, f3, f4, f5⟩ hsq2 hrest ?_ hn0 q
    · obtain ⟨oi, hoi, r⟩ := st'
      exact ⟨oi, (sb2.2 it hdi.symm).trans hoi, r⟩
    · have h3 := length_putK m (Sum.inr p.1) p.2
      simp only [List.length_cons] at hlen
      omega
/-- dict(t): t known to its object -/
theorem call_dictT (hc : X.calm = true) : CallR X (.type "dict") (fun xs H Q => ∃ (a : Addr) (o : Obj) (vs : List V) (ps : List (Str × V)), xs = [.ref a] ∧ H a = some (.frz o (.tup vs)) ∧ o.dict = none ∧ Paired (fun v (p : Str × V) => ∃ t, v = .ref t ∧ SqT X.K H t [.str p.1, p.2]) vs ps ∧ ps.length ≤ 1000 ∧
    ∀ d, H d = none → Q (.ref d) (upd H d (.dK (foldP ps [])))) := by
  intro pins s σ H xs us Q I r h
  obtain ⟨a, o, vs, ps, rfl, ha, hod, hp, hlen, q⟩ := h
  obtain ⟨u, rfl, ru⟩ := vals1 r
  cases ru
  have hsq : SqT X.K H a vs := .inl (.inr ⟨o, ha⟩)
  obtain ⟨its, rv, pt, hz⟩ := I.tuple hsq
  have hobj : s.heap.get? a = some o := (I.hok a _ ha).1
  have hfr : H s.heap.objs.size = none := I.hok.fresh (Nat.le_refl _)
  refine callType_codes (Q₁ := fun obj s₁ => obj = .ref s.heap.objs.size ∧ s₁ = { s with heap := s.heap.push { cls := .type "dict", data := .dict #[] } }) F.kt_called_dict (F.kt_typeCall_dict_1 _) F.entry_dict_init (kt_code_dict_new _ ⟨rfl, rfl⟩) ?_
  rintro obj s₁ ⟨rfl, rfl⟩
  have I1 : Inv X pins σ (upd H s.heap.objs.size (.dK [])) { s with heap := s.heap.push { cls := .type "dict", data := .dict #[] } } :=
    I.laid (a := s.heap.objs.size) (o := .dK []) (t' := s.toks) (fun _ _ q => Heap.get?_push_of_some _ q) (Nat.le_refl _) (dk_empty s.heap I.big)
  have hnew : (s.heap.push { cls := .type "dict", data := .dict #[] }).DictOf (mixKind X.prog X.w) s.heap.objs.size [] := Heap.DictOf.new s.heap
  refine ⟨hnew.typeIs, F.args_dict_init_2 _ _, ?_⟩
  unfold Builtin.«dict.__init__»
  refine wpAny_bind ?_
  unfold Builtin.Dict.selfAndRest
  refine wpAny_bind (wpAny_notOrdered_dict hnew.typeIs ?_)
  show wpAny _ _ (pure (s.heap.objs.size, [Value.ref a])) _ _ _
  refine wpAny_pure ?_
  show wpAny _ _ (Builtin.Dict.updateFrom "dict.__init__" s.heap.objs.size (.ref a) [] .none) _ _ _
  have had : s.heap.objs.size ≠ a := Ne.symm (ne_of_none ha hfr)
  have hobj1 : (s.heap.push { cls := .type "dict", data := .dict #[] }).get? a = some o := Heap.get?_push_of_some _ hobj
  have htp : (s.heap.push { cls := .type "dict", data := .dict #[] }).IsTuple a its.toArray := by
    obtain ⟨o2, h1, h2⟩ := pt
    exact ⟨o2, Heap.get?_push_of_some _ h1, h2⟩
  unfold Builtin.Dict.updateFrom
  refine wpAny_bind (wpAny_typeOf (s := { s with heap := s.heap.push { cls := .type "dict", data := .dict #[] } }) (T := "tuple") (by obtain ⟨o2, h1, h2, _⟩ := htp; exact ⟨o2, h1, h2⟩) ?_)
  rw [if_pos (by decide)]
  refine wpAny_bind (keys_miss htp (fun o2 h2 => by rw [hobj1] at h2; cases h2; exact hod) (I.ok.hd hc) fun h' tk hk => ?_)
  rw [if_pos (show (none : Option Value).isNone = true from rfl)]
  refine wpAny_bind (wpAny_rule ?_)
  have I2 : Inv X pins σ (upd H s.heap.objs.size (.dK [])) { s with heap := h', toks := tk } := I1.kept hk
  have htp2 : h'.IsTuple a its.toArray := by
    obtain ⟨o2, h1, h2⟩ := htp
    exact ⟨o2, hk _ _ h1, h2⟩
  refine wpAny_bind (wpAny_pyIter_tuple (s := { s with heap := h', toks := tk }) htp2 ?_)
  refine wpAny_pure ⟨plainId_quiet plain_dul _, ?_⟩
  have I3 := I2.kept (h' := h'.push { cls := .type "tuple_iterator", data := .fields #[.ref a, .int 0 0] }) (t' := tk) fun b ob e => Heap.get?_push_of_some _ e
  have hfi : upd H s.heap.objs.size (.dK []) h'.objs.size = none := I2.hok.fresh (Nat.le_refl _)
  have hdi : s.heap.objs.size ≠ h'.objs.size := by
    intro z
    rw [← z, upd_same] at hfi
    cases hfi
  have hfi0 : H h'.objs.size = none := by rw [upd_ne hdi.symm] at hfi; exact hfi
  have hia : h'.objs.size ≠ a := fun z => by
    rw [z, ha] at hfi0
    cases hfi0
  have hsq1 : SqT X.K (upd H s.heap.objs.size (.dK [])) a vs := .inl (.inr ⟨o, by rw [upd_ne had.symm]; exact ha⟩)
  have L := dict_loop (X := X) hc (A := X.A.in1) (I.ok.hd hc) (pins := pins) (σ := σ) (H0 := H) (Q := Q) (a := a) (d := s.heap.objs.size) (it := h'.objs.size) (vs := vs) had hia hdi vs.length 0 _ [] ps 0 0 (by omega) I3 ⟨_, Heap.get?_push_size _ rfl, rfl, rfl⟩ (I2.fpOk (Nat.le_refl _) hfi) hsq1
    (Paired.mapP hp fun v p ⟨t, e, ht⟩ => ⟨t, e, fun z => ?_, ht⟩) (by simpa using hlen) hfi0 (q _ hfr)
  · refine codeAny_mono L fun r s' hr => ?_
    cases r with
    | error e => exact False.elim hr
    | ok f =>
      cases f with
      | ret v =>
        obtain ⟨e, H', I', q'⟩ := hr
        exact ⟨e, .ref s.heap.objs.size, H', I', rfl, q'⟩
      | next => exact False.elim hr
      | brk => exact False.elim hr
      | cont => exact False.elim hr
  · obtain ⟨its2, _, ⟨o2, h2, _⟩, _⟩ := I.tuple ht
    rw [z] at h2
    exact absurd (Heap.lt_size h2) (Nat.lt_irrefl _)
end
end L2

set_option Elab.async false
set_option linter.all false
set_option maxRecDepth 100000
set_option maxHeartbeats 4000000
/-! tuple(d), list(d): the keys of a dict, in their order -/
namespace L2
open PySem PySem.Spec PyProof.Rows PySem.W
section
variable {prog : Program} {w : World} {A : Around} {E : Value → Shared → Prop} {s : Shared} {T : String} {r d : Addr} {n : Nat} {P : Nat → Value → Prop} {OK : Heap → Prop}
theorem collect_src {Q : List Value → Shared → Prop} (K : KdlSrc prog w T r d n P OK) (hh : A.handled = none) (hok : OK s.heap) (hn : n ≤ sizeLine)
    (hQ : ∀ (h' : Heap) (tk : Nat) (acc : Array Value), (∀ b o, s.heap.get? b = some o → h'.get? b = some o) → ItemsOf P acc n → Q acc.toList { s with heap := h', toks := tk }) : wpAny (model prog w) A (collect (.ref r)) Q E s := by
  unfold collect
  refine wpAny_bind (wpAny_runValue (codeAny_builtin F.entry_proto_collect ?_))
  rw [Around.under_plainId F.plain_proto_collect _]
  show wpAny _ A.in1 (newList [] >>= fun l => again (.builtin "list.__iadd__" ⟨[l, .ref r], []⟩)) _ _ s
  refine wpAny_bind (wpAny_newObj_type ?_)
  refine wpAny_pure ⟨plainId_quiet F.plain_list_iadd _, codeAny_builtin F.entry_list_iadd ?_⟩
  rw [Around.under_plainId F.plain_list_iadd _]
  have hS : (s.heap.push { cls := .type "list", data := .seq ([] : List Value).toArray }).get? s.heap.objs.size = some { cls := .type "list", data := .seq #[] 0 } := Heap.get?_push_size _ rfl
  have hlt := K.there _ hok
  show wpAny _ A.in1 (Builtin.List.listExtendWith (.ref s.heap.objs.size) (.ref r) (.ref s.heap.objs.size)) _ _ _
  have fin' : ∀ (h' : Heap) (tk c' : Nat) (acc' : Array Value), (∀ b o, b ≠ s.heap.objs.size → (s.heap.push { cls := .type "list", data := .seq ([] : List Value).toArray }).get? b = some o → h'.get? b = some o) → h'.get? s.heap.objs.size = some { cls := .type "list", dict := none, data := .seq acc' c', slots := #[] } → ItemsOf P acc' n →
      wpAny (model prog w) A (match Value.ref s.heap.objs.size with
      | Value.ref a => do
        match (← load a).data with
          | Data.seq xs _ => pure xs.toList
          | _ => unsupported "internal:collect"
      | _ => unsupported "internal:collect") Q E { s with heap := h', toks := tk } := by
    intro h' tk c' acc' hk hS' hacc
    show wpAny _ A (load s.heap.objs.size >>= _) _ _ _
    refine wpAny_bind (wpAny_load hS' ?_)
    exact wpAny_pure (hQ h' tk acc' (fun b o e => hk b o (Nat.ne_of_lt (Heap.lt_size e)) (Heap.get?_push_of_some _ e)) hacc)
  refine wpAny_mono (kdl_extend (A := A) (R := fun r s' => ∃ (h' : Heap) (tk c' : Nat) (acc' : Array Value), r = .ok (.ret (.ref s.heap.objs.size)) ∧ s' = { s with heap := h', toks := tk } ∧ (∀ b o, b ≠ s.heap.objs.size → (s.heap.push { cls := .type "list", data := .seq ([] : List Value).toArray }).get? b = some o → h'.get? b = some o) ∧ h'.get? s.heap.objs.size = some { cls := .type "list", dict := none, data := .seq acc' c', slots := #[] } ∧ ItemsOf P acc' n)
    (s := { s with heap := s.heap.push { cls := .type "list", data := .seq ([] : List Value).toArray } }) K hh (K.keep _ _ hok fun b _ o e => Heap.get?_push_of_some _ e) s.heap.objs.size (Nat.ne_of_gt hlt.1) (Nat.ne_of_gt hlt.2) (.ref s.heap.objs.size) 0 hS (fun h' tk acc' c' hk hS' hacc => ⟨h', tk, c', acc', rfl, rfl, hk, hS', hacc⟩) hn) (fun fin s' h => ?_) (fun e s' h => ?_)
  · cases fin with
    | done f =>
      obtain ⟨h', tk, c', acc', e, rfl, hk, hS', hacc⟩ := h
      cases e
      exact fin' h' tk c' acc' hk hS' hacc
    | again c' => exact ⟨h.1, codeAny_mono h.2 fun r s'' hr => by obtain ⟨h', tk, c', acc', rfl, rfl, hk, hS', hacc⟩ := hr; exact fin' h' tk c' acc' hk hS' hacc⟩
  · obtain ⟨h', tk, c', acc', e, _⟩ := h
    cases e
theorem code_tuple_new_src {Q₁ : Value → Shared → Prop} (K : KdlSrc prog w "dict" r d n P OK) (hh : A.handled = none) (hok : OK s.heap)
    (h : ∀ (h' : Heap) (tk : Nat) (acc : Array Value), (∀ b o, s.heap.get? b = some o → h'.get? b = some o) → ItemsOf P acc n → Q₁ (.ref h'.objs.size) { s with heap := h'.push { cls := .type "tuple", data := .seq acc }, toks := tk }) (hsz : n ≤ sizeLine) :
    codeAny (model prog w) A (.call (.builtin "tuple.__new__") ⟨[.type "tuple", .ref r], []⟩) (wants Q₁ E) s := by
  refine codeAny_of_tree ?_
  show wpAny _ A.in1 (do checkBuiltinCall "tuple.__new__" ⟨[.type "tuple", .ref r], []⟩; again (.builtin "tuple.__new__" ⟨[.type "tuple", .ref r], []⟩)) _ _ s
  refine wpAny_bind (wpAny_of_eq (F.newCall_tuple_1 _) (wpAny_pure ⟨plainId_quiet F.plain_tuple_new _, codeAny_builtin F.entry_tuple_new ?_⟩))
  rw [Around.under_plainId F.plain_tuple_new _]
  have hsub := sub_tuple_self
  have hinit := init_tuple_lookup
  have hmh := madeHere_tuple
  have hTI := K.type s hok
  have hh1 : A.in1.handled = none := hh
  wp_walk using wpAny_typeOf hTI, collect_src (A := A.in1) K hh1 hok hsz
  intro h' tk acc hm hacc
  show wpAny _ _ (Builtin.Tuple.tupleExact acc.toList.toArray >>= fun v => ret v) _ _ _
  unfold Builtin.Tuple.tupleExact
  refine wpAny_bind (wpAny_newObj_type ?_ (by show acc.toList.toArray.size ≤ sizeLine; simp only [Array.toArray_toList]; rw [hacc.1]; exact hsz))
  refine wpAny_pure ?_
  have e : acc.toList.toArray = acc := by simp
  rw [e]
  exact h h' tk acc hm hacc
theorem call_tuple_src {Q : Value → Shared → Prop} (K : KdlSrc prog w "dict" r d n P OK) (hh : A.handled = none) (hok : OK s.heap) (hsz : n ≤ sizeLine)
    (hQ : ∀ (h' : Heap) (tk : Nat) (acc : Array Value), (∀ b o, s.heap.get? b = some o → h'.get? b = some o) → ItemsOf P acc n → Q (.ref h'.objs.size) { s with heap := h'.push { cls := .type "tuple", data := .seq acc }, toks := tk }) :
    wpAny (model prog w) A (call (.type "tuple") [.ref r]) Q E s := by
  refine callType_codes (Q₁ := fun obj s₁ => s₁.TypeIs obj "tuple" ∧ Q obj s₁) F.called_tuple (F.typeCall_tuple_1 _) F.entry_object_init
    (code_tuple_new_src K hh hok (fun h' tk acc hm hacc => ⟨⟨_, Heap.get?_push_size _ rfl, rfl⟩, hQ h' tk acc hm hacc⟩) hsz) fun obj s₁ h₁ => ?_
  exact ⟨h₁.1, F.args_object_init_2 obj _, object_init_meets F.called_tuple.init.lookup F.called_tuple.made (by decide) prog w A.in1 _ s₁ ⟨h₁.1, rfl, h₁.2⟩⟩
end
theorem is_kV {P : Program} {w : World} {k : Key} {u : Value} (h : (mixKind P w).is k u = true) : RelV (kV k) u := by
  rcases keyIs_shape (show keyIs k u = true from h) with ⟨i, t, rfl, rfl⟩ | ⟨x, t, rfl, rfl⟩
  · exact ⟨t, rfl⟩
  · exact ⟨t, rfl⟩
def keysV (kvs : List (Key × V)) : List V := kvs.map fun kv => kV kv.1
theorem length_keysV (kvs : List (Key × V)) : (keysV kvs).length = kvs.length := List.length_map _
theorem vals_keys {P : Program} {w : World} : ∀ {kvs : List (Key × V)} {vs : List (Key × Value)} {us : List Value}, KV kvs vs → us.length = vs.length → (∀ (j : Nat) (u : Value), us[j]? = some u → ∃ k x, vs[j]? = some (k, x) ∧ (mixKind P w).is k u = true) → Vals (keysV kvs) us
  | _, _, [], .nil, _, _ => .nil
  | _, _, _ :: _, .nil, hl, _ => by simp at hl
  | _, _, [], .cons _ _, hl, _ => by simp at hl
  | _, _, u :: us, .cons (a := p) (b := q) h hr, hl, hv => by
    obtain ⟨k, x, e, hk⟩ := hv 0 u rfl
    simp only [List.getElem?_cons_zero, Option.some.injEq] at e
    subst e
    have h1 : p.1 = k := h.1
    refine .cons (by show RelV (kV p.1) u; rw [h1]; exact is_kV hk) (vals_keys hr (by simpa using hl) fun j v hj => by simpa using hv (j + 1) v (by simpa using hj))
section
variable {X : Cx}
/-- tuple(d) -/
theorem call_tupleD (hc : X.calm = true) : CallR X (.type "tuple") (fun xs H Q => ∃ a kvs, xs = [.ref a] ∧ Rd H a (.dK kvs) ∧ ∀ l, H l = none → Q (.ref l) (upd H l (.tup (keysV kvs)))) := by
  intro pins s σ H xs us Q I r h
  obtain ⟨a, kvs, rfl, ha, q⟩ := h
  obtain ⟨u, rfl, ru⟩ := vals1 r
  cases ru
  obtain ⟨z, hsm, vs, rel, dd⟩ := dk_rd I.hok ha
  have hl := rel.length
  obtain ⟨ep, hat⟩ := dd.dictAt
  refine call_tuple_src (kdl_dict (knd := mixKind X.prog X.w) (kvs := vs) (ep := ep) hsm) (I.ok.hd hc) hat (by omega) fun h' tk acc hk hacc => ?_
  have I1 : Inv X pins σ H { s with heap := h', toks := tk } := I.kept (t' := tk) hk
  have hv : Vals (keysV kvs) acc.toList := vals_keys rel (by rw [Array.length_toList]; exact hacc.1) fun j u e => hacc.2 j u (by rw [← Array.getElem?_toList]; exact e)
  have I2 : Inv X pins σ (upd H h'.objs.size (.tup (keysV kvs))) { s with heap := h'.push { cls := .type "tuple", data := .seq acc }, toks := tk } :=
    I1.laid (t' := tk) (fun b o e => Heap.get?_push_of_some _ e) (Nat.le_refl _) (show ObjOk X.prog X.w _ _ _ (.tup (keysV kvs)) from ⟨by rw [length_keysV]; exact z, acc.toList, hv, by
      have := IsTup.new h' acc
      simpa using this⟩)
  exact ⟨.ref h'.objs.size, _, I2, rfl, q _ (I1.hok.fresh (Nat.le_refl _))⟩
/-- list(d) -/
theorem call_listD (hc : X.calm = true) : CallR X (.type "list") (fun xs H Q => ∃ a kvs, xs = [.ref a] ∧ Rd H a (.dK kvs) ∧ ∀ l, H l = none → Q (.ref l) (upd H l (.lst (keysV kvs)))) := by
  intro pins s σ H xs us Q I r h
  obtain ⟨a, kvs, rfl, ha, q⟩ := h
  obtain ⟨u, rfl, ru⟩ := vals1 r
  cases ru
  obtain ⟨z, hsm, vs, rel, dd⟩ := dk_rd I.hok ha
  have hl := rel.length
  obtain ⟨ep, hat⟩ := dd.dictAt
  refine kdl_call (kdl_dict (knd := mixKind X.prog X.w) (kvs := vs) (ep := ep) hsm) (I.ok.hd hc) hat (by omega) fun h' tk acc c hk hS hacc => ?_
  have hv : Vals (keysV kvs) acc.toList := vals_keys rel (by rw [Array.length_toList]; exact hacc.1) fun j u e => hacc.2 j u (by rw [← Array.getElem?_toList]; exact e)
  exact ⟨.ref s.heap.objs.size, _, I.laid (t' := tk) hk (Nat.le_refl _) (show ObjOk X.prog X.w _ h' _ (.lst (keysV kvs)) from ⟨by rw [length_keysV]; exact z, acc.toList, c, hv, by simpa using hS⟩), rfl, q _ (I.hok.fresh (Nat.le_refl _))⟩
end
end L2

set_option Elab.async false
set_option linter.all false
set_option maxRecDepth 100000
set_option maxHeartbeats 4000000
/-! the parts that a part's bring or ask rows name; parts that dict(..) may be told of -/
namespace L2
open PySem PySem.Spec PyProof.Rows
def kindS : Rw → Str
  | .bring _ _ => "bring"
  | .give _ _ => "give"
  | .set _ _ => "set"
  | .take _ => "take"
  | .say _ _ => "say"
  | .need _ => "need"
  | .ask _ _ => "ask"
  | .part _ => "part"
  | .doo _ => "do"
/-- the part that a bring or an ask row names -/
def namesIt (k : Str) : Rw → Option Str
  | .bring p _ => if ("bring" : Str) = k then some p else none
  | .ask p _ => if ("ask" : Str) = k then some p else none
  | _ => none
def addN (l : List Str) (x : Str) : List Str := if x ∈ l then l else l ++ [x]
def stepN (k : Str) (l : List Str) (r : Rw) : List Str := match namesIt k r with
  | none => l
  | some x => addN l x
def namedOf (k : Str) (rs : List Rw) : List Str := rs.foldl (stepN k) []
theorem namedOf_snoc (k : Str) (rs : List Rw) (r : Rw) : namedOf k (rs ++ [r]) = stepN k (namedOf k rs) r := by
  unfold namedOf; rw [List.foldl_append]; rfl
theorem addN_len (l : List Str) (x : Str) : (addN l x).length ≤ l.length + 1 := by
  unfold addN; split <;> simp
theorem stepN_len (k : Str) (l : List Str) (r : Rw) : (stepN k l r).length ≤ l.length + 1 := by
  unfold stepN
  split
  · omega
  · exact addN_len _ _
theorem namedOf_len (k : Str) : ∀ (rs : List Rw) (l : List Str), (rs.foldl (stepN k) l).length ≤ l.length + rs.length
  | [], l => by simp
  | r :: rs, l => by
    have h1 := namedOf_len k rs (stepN k l r)
    have h2 := stepN_len k l r
    simp only [List.foldl_cons, List.length_cons]; omega
/-- a set of texts, as the program keeps it -/
def setD (l : List Str) : List (Key × V) := l.map fun x => (Sum.inr x, .bl true)
theorem setD_len (l : List Str) : (setD l).length = l.length := List.length_map _
theorem setD_keys (l : List Str) : keysV (setD l) = l.map V.str := by
  unfold keysV setD
  rw [List.map_map]
  rfl
theorem setD_any (l : List Str) (x : Str) : ((setD l).any fun kv => decide (kv.1 = Sum.inr x)) = decide (x ∈ l) := by
  induction l with
  | nil => simp [setD]
  | cons a r ih =>
    have : setD (a :: r) = (Sum.inr a, .bl true) :: setD r := rfl
    rw [this, List.any_cons, ih]
    by_cases e : a = x
    · subst e; simp
    · have h1 : ¬ (Sum.inr a : Key) = Sum.inr x := fun z => e (Sum.inr.inj z)
      have h2 : ¬ x = a := fun z => e z.symm
      simp [e, h2]
theorem setD_put (l : List Str) (x : Str) : putK (setD l) (Sum.inr x) (.bl true) = setD (addN l x) := by
  unfold putK
  rw [setD_any]
  unfold addN
  by_cases e : x ∈ l
  · rw [if_pos (by simpa using e), if_pos e]
    unfold setD
    rw [List.map_map]
    refine List.map_congr_left fun a _ => ?_
    show (if (Sum.inr a : Key) = Sum.inr x then ((Sum.inr a : Key), V.bl true) else (Sum.inr a, V.bl true)) = _
    split <;> rfl
  · rw [if_neg (by simpa using e), if_neg e]
    unfold setD
    rw [List.map_append]
    rfl
/-- told parts, known to their object -/
def PartsF (H : Hp) (a : Addr) (ps : List Pt) : Prop := ∃ o vs, H a = some (.frz o (.tup vs)) ∧ o.dict = none ∧ Paired (PartAt H) vs ps
theorem Same.partsF {H H' : Hp} (s : Same H H') {a : Addr} {ps : List Pt} (h : PartsF H a ps) : PartsF H' a ps := by
  obtain ⟨o, vs, h1, h2, h3⟩ := h
  exact ⟨o, vs, s _ _ h1, h2, Paired.mapP h3 fun _ _ q => q.mono s.tups⟩
/-- what dict(parts) tells of a name -/
theorem foldP_get : ∀ (ps : List (Str × V)) (m : List (Key × V)) (n : Str) (v : V), (ps.map (·.1)).Nodup → ((n, v) ∈ ps ∨ ((∀ p ∈ ps, p.1 ≠ n) ∧ valV m (Sum.inr n) = some v)) → valV (foldP ps m) (Sum.inr n) = some v
  | [], m, n, v, _, h => by
    rcases h with h | h
    · simp at h
    · exact h.2
  | p :: ps, m, n, v, hn, h => by
    rw [List.map_cons, List.nodup_cons] at hn
    show valV (foldP ps (putK m (Sum.inr p.1) p.2)) _ = _
    refine foldP_get ps _ n v hn.2 ?_
    rcases h with h | ⟨h1, h2⟩
    · rcases List.mem_cons.mp h with e | e
      · refine .inr ⟨fun q hq z => hn.1 ?_, ?_⟩
        · rw [← e]; show n ∈ _; rw [← z]; exact List.mem_map_of_mem hq
        · rw [← e]
          show valV (putK m (Sum.inr n) v) (Sum.inr n) = _
          rw [valV_put, if_pos rfl]
      · exact .inl e
    · refine .inr ⟨fun q hq => h1 q (List.mem_cons_of_mem _ hq), ?_⟩
      rw [valV_put, if_neg (fun z => h1 p List.mem_cons_self (Sum.inr.inj z).symm)]
      exact h2
theorem RowAt.kind {H : Hp} {r : Addr} {rw : Rw} (h : RowAt H r rw) : ∃ x rest, H r = some (.tup (.str (kindS rw) :: x :: rest)) := by
  cases rw with
  | bring p ps => obtain ⟨t, h1, h2⟩ := h; exact ⟨_, _, h1⟩
  | give o g => exact ⟨_, _, h⟩
  | set o ts => obtain ⟨t, h1, h2⟩ := h; exact ⟨_, _, h1⟩
  | take o => exact ⟨_, _, h⟩
  | say ts w => obtain ⟨t, h1, h2⟩ := h; exact ⟨_, _, h1⟩
  | need ts => obtain ⟨t, h1, h2⟩ := h; exact ⟨_, _, h1⟩
  | ask p w => exact ⟨_, _, h⟩
  | part p => exact ⟨_, _, h⟩
  | doo p => exact ⟨_, _, h⟩
/-- a row of kind k, k one of the two: it names a part -/
theorem RowAt.named {H : Hp} {r : Addr} {rw : Rw} {k : Str} (h : RowAt H r rw) (hk : k = "bring" ∨ k = "ask") : (kindS rw = k ∧ ∃ p rest, namesIt k rw = some p ∧ H r = some (.tup (.str k :: .str p :: rest))) ∨ (kindS rw ≠ k ∧ namesIt k rw = none) := by
  rcases hk with rfl | rfl
  · cases rw with
    | bring p ps => obtain ⟨t, h1, h2⟩ := h; exact .inl ⟨rfl, p, _, by simp [namesIt], h1⟩
    | ask p w => exact .inr ⟨by simp only [kindS]; decide +kernel, by simp only [namesIt]; rw [if_neg (by decide +kernel)]⟩
    | _ => exact .inr ⟨by simp only [kindS]; decide +kernel, rfl⟩
  · cases rw with
    | ask p w => exact .inl ⟨rfl, p, _, by simp [namesIt], h⟩
    | bring p ps => exact .inr ⟨by simp only [kindS]; decide +kernel, by simp only [namesIt]; rw [if_neg (by decide +kernel)]⟩
    | _ => exact .inr ⟨by simp only [kindS]; decide +kernel, rfl⟩
end L2

set_option Elab.async false
set_option linter.all false
set_option maxRecDepth 100000
set_option maxHeartbeats 4000000
/-! rules and data for the houses of parts that the laws of the net draw -/
namespace L2
open PySem PySem.Spec PyProof.Rows
section
variable {X : Cx}
theorem rep_fold (c : Nat) : ∀ (n : Nat) (acc : List Nat), (List.replicate n #[c]).foldl (· ++ ·) acc.toArray = (acc ++ List.replicate n c).toArray
  | 0, acc => by simp
  | n + 1, acc => by
    rw [List.replicate_succ, List.foldl_cons, List.replicate_succ]
    have : acc.toArray ++ #[c] = (acc ++ [c]).toArray := by simp
    rw [this, rep_fold c n (acc ++ [c])]
    simp
/-- a text of one sign, some times -/
theorem op_rep1 : OpR X (binaryOp .Mult) (fun x y H Q => ∃ (c : Nat) (k : Int), x = .str ⟨#[c]⟩ ∧ y = .int k ∧ 1 ≤ k ∧ k ≤ 1000 ∧ Q (.str ⟨(List.replicate k.toNat c).toArray⟩) H) := by
  intro pins s σ H x y v u Q I rx ry h
  obtain ⟨c, k, rfl, rfl, h1, h2, q⟩ := h
  obtain ⟨t, rfl⟩ := rx
  obtain ⟨t', rfl⟩ := ry
  have hl : (⟨#[c]⟩ : Str).length = 1 := rfl
  refine PySem.P.mul_str (by rw [decide_eq_false (by omega), decide_eq_false (by omega)]; rfl) (fun _ _ => ?_) (fun _ _ => ?_) ?_
  · rw [hl]
    have : (2 ^ 63 - 1) / k ≥ 1 := by
      rw [ge_iff_le, Int.le_ediv_iff_mul_le (by omega)]; omega
    omega
  · rw [hl, Nat.one_mul]
    unfold Builtin.Str.tooLong
    have : sizeLine = 16777216 := sizeLine_eq
    simp; omega
  · rw [if_neg (by omega)]
    by_cases e : k = 1
    · subst e
      rw [if_pos (by simp)]
      exact ⟨.str ⟨(List.replicate (1 : Int).toNat c).toArray⟩, H, I, ⟨t, rfl⟩, q⟩
    · rw [if_neg (by rw [hl]; simp [e])]
      have hr := rep_fold c k.toNat []
      rw [List.nil_append] at hr
      rw [show (List.replicate k.toNat (⟨#[c]⟩ : Str).cps).foldl (· ++ ·) #[] = (List.replicate k.toNat c).toArray from hr]
      exact ⟨by show (List.replicate k.toNat c).toArray.size ≤ _; simp; have : sizeLine = 16777216 := sizeLine_eq; omega, .str ⟨(List.replicate k.toNat c).toArray⟩, H, I.tok _, ⟨_, rfl⟩, q⟩
end
/-! ### the names -/
def lets : Str := "abcdefghijklmnopqrstuvwxyz"
def letAt (i : Int) : Nat := lets.cps.toList.getD i.toNat 0
def sgAt (i : Int) : Nat := ("abcdefghijklmnopqrstuvwxyz0123456789" : Str).cps.toList.getD i.toNat 0
theorem lets_let : ∀ i : Nat, i < 26 → isLet (lets.cps.toList.getD i 0) = true := by decide +kernel
theorem lets_inj : ∀ i : Nat, i < 26 → ∀ j : Nat, j < 26 → lets.cps.toList.getD i 0 = lets.cps.toList.getD j 0 → i = j := by decide +kernel
theorem lets_len : lets.cps.toList.length = 26 := by decide +kernel
theorem letAt_inj {i j : Int} (hi : 0 ≤ i) (hi2 : i < 26) (hj : 0 ≤ j) (hj2 : j < 26) (h : letAt i = letAt j) : i = j := by
  have := lets_inj i.toNat (by omega) j.toNat (by omega) h
  omega
def turnK (b k : Int) : Int := (k * ([1, 5, 7, 11, 13, 23].getD (b % 6).toNat 0) + b / 6) % 24
/-- the signs of a name of the third form -/
def nm3 (b k z : Int) : Nat → List Nat
  | 0 => []
  | j + 1 => nm3 b k z j ++ [if (j : Int) = b / 32 % z then letAt ((b / (256 + 11 * j * j) + k) % 26) else if (j : Int) = 0 then letAt (b / (256 + 11 * j * j) % 26) else sgAt (b / (256 + 11 * j * j) % 36)]
def nameM (b k : Int) : Str :=
  let k' := turnK b k
  let b' := b / 144
  if b' % 4 = 0 then ⟨(List.replicate (1 + k' % 8).toNat (letAt ((b' / 4 + k' / 8) % 26))).toArray⟩
  else if b' % 4 = 1 then ⟨(List.replicate (1 + b' / 104 % 6).toNat (letAt (b' / 4 % 26))).toArray⟩ ++ Str.ofString (toString k')
  else ⟨(nm3 b' k' (1 + b' / 4 % 8) (1 + b' / 4 % 8).toNat).toArray⟩
theorem turnK_rng (b k : Int) : 0 ≤ turnK b k ∧ turnK b k < 24 := by unfold turnK; omega
theorem turnK_inj {b k l : Int} (hb : 0 ≤ b) (hk : 0 ≤ k) (hk2 : k < 24) (hl : 0 ≤ l) (hl2 : l < 24) (h : turnK b k = turnK b l) : k = l := by
  unfold turnK at h
  have h6 : 0 ≤ b % 6 := by omega
  have h7 : b % 6 < 6 := by omega
  have : (b % 6).toNat = 0 ∨ (b % 6).toNat = 1 ∨ (b % 6).toNat = 2 ∨ (b % 6).toNat = 3 ∨ (b % 6).toNat = 4 ∨ (b % 6).toNat = 5 := by omega
  rcases this with e | e | e | e | e | e <;> rw [e] at h <;> simp only [List.getD_cons_zero, List.getD_cons_succ] at h <;> omega
theorem nm3_len (b k z : Int) : ∀ n, (nm3 b k z n).length = n
  | 0 => rfl
  | n + 1 => by
    show (nm3 b k z n ++ [_]).length = _
    rw [List.length_append, nm3_len b k z n]; rfl
theorem nm3_get (b k z : Int) : ∀ (n j : Nat), j < n → (nm3 b k z n)[j]? = some (if (j : Int) = b / 32 % z then letAt ((b / (256 + 11 * j * j) + k) % 26) else if (j : Int) = 0 then letAt (b / (256 + 11 * j * j) % 26) else sgAt (b / (256 + 11 * j * j) % 36))
  | 0, j, h => by omega
  | n + 1, j, h => by
    show (nm3 b k z n ++ [_])[j]? = _
    by_cases e : j < n
    · rw [List.getElem?_append_left (by rw [nm3_len]; exact e)]
      exact nm3_get b k z n j e
    · have : j = n := by omega
      subst this
      rw [List.getElem?_append_right (by rw [nm3_len]; exact Nat.le_refl _), nm3_len]
      simp
theorem num24_inj : ∀ i : Nat, i < 24 → ∀ j : Nat, j < 24 → Str.ofString (toString (i : Int)) = Str.ofString (toString (j : Int)) → i = j := by decide +kernel
theorem str_app_cancel {a x y : Str} (h : a ++ x = a ++ y) : x = y := by
  have h2 : (a ++ x).cps.toList = (a ++ y).cps.toList := by rw [h]
  rw [cps_app, cps_app] at h2
  have h3 := List.append_cancel_left h2
  cases x; cases y
  congr
  exact Array.toList_inj.mp h3
theorem nameM_inj {b k l : Int} (hb : 0 ≤ b) (hk : 0 ≤ k) (hk2 : k < 24) (hl : 0 ≤ l) (hl2 : l < 24) (h : nameM b k = nameM b l) : k = l := by
  refine turnK_inj hb hk hk2 hl hl2 ?_
  obtain ⟨r1, r2⟩ := turnK_rng b k
  obtain ⟨r3, r4⟩ := turnK_rng b l
  unfold nameM at h
  generalize turnK b k = k' at *
  generalize turnK b l = l' at *
  have hb' : 0 ≤ b / 144 := by omega
  generalize b / 144 = b' at *
  simp only at h
  split at h
  · have h2 : List.replicate (1 + k' % 8).toNat (letAt ((b' / 4 + k' / 8) % 26)) = List.replicate (1 + l' % 8).toNat (letAt ((b' / 4 + l' / 8) % 26)) := by
      injection h with h
      exact congrArg Array.toList h
    have h3 := congrArg List.length h2
    simp only [List.length_replicate] at h3
    have h4 := congrArg List.head? h2
    rw [show (1 + k' % 8).toNat = (k' % 8).toNat + 1 by omega, show (1 + l' % 8).toNat = (l' % 8).toNat + 1 by omega, List.replicate_succ, List.replicate_succ] at h4
    simp only [List.head?_cons, Option.some.injEq] at h4
    have h5 := letAt_inj (by omega) (by omega) (by omega) (by omega) h4
    omega
  · split at h
    · have h2 := str_app_cancel h
      have e1 : ((k'.toNat : Nat) : Int) = k' := by omega
      have e2 : ((l'.toNat : Nat) : Int) = l' := by omega
      rw [← e1, ← e2] at h2
      have := num24_inj k'.toNat (by omega) l'.toNat (by omega) h2
      omega
    · have h2 : nm3 b' k' (1 + b' / 4 % 8) (1 + b' / 4 % 8).toNat = nm3 b' l' (1 + b' / 4 % 8) (1 + b' / 4 % 8).toNat := by
        injection h with h
        exact congrArg Array.toList h
      have hz : 0 < 1 + b' / 4 % 8 := by omega
      generalize 1 + b' / 4 % 8 = z at *
      have hj1 : 0 ≤ b' / 32 % z := Int.emod_nonneg _ (by omega)
      have hj2 : b' / 32 % z < z := Int.emod_lt_of_pos _ hz
      have e1 : (((b' / 32 % z).toNat : Nat) : Int) = b' / 32 % z := by omega
      have g1 := nm3_get b' k' z z.toNat (b' / 32 % z).toNat (by omega)
      have g2 := nm3_get b' l' z z.toNat (b' / 32 % z).toNat (by omega)
      rw [e1, if_pos rfl] at g1 g2
      rw [h2, g2] at g1
      injection g1 with g1
      have h5 := letAt_inj (by omega) (by omega) (by omega) (by omega) g1
      generalize b' / (256 + 11 * (b' / 32 % z) * (b' / 32 % z)) = q at *
      omega
end L2

set_option Elab.async false
set_option linter.all false
set_option maxRecDepth 100000
set_option maxHeartbeats 4000000
namespace L2
open PySem PySem.Spec PyProof.Rows
section
variable {X : Cx}
theorem vals_ins {xs : List V} {its : List Value} (r : Vals xs its) {y : V} {u : Value} (ru : RelV y u) (k : Nat) : Vals (xs.take k ++ y :: xs.drop k) (its.take k ++ u :: its.drop k) :=
  (r.take k).append (.cons ru (r.drop k))
def rInsert : V → List V → Hp → VK → Prop := fun x vs H Q => ∃ (l : Addr) (xs : List V) (i : Int) (y : V), x = .ref l ∧ vs = [.int i, y] ∧ H l = some (.lst xs) ∧ 0 ≤ i ∧ i ≤ xs.length ∧ xs.length < sizeLine ∧ Q .non (upd H l (.lst (xs.take i.toNat ++ y :: xs.drop i.toNat)))
/-- l.insert(i, y), i within the list -/
theorem mt_insert : MtM X "list.insert" rInsert := by
  intro pins s σ H x vs v us Q I rx rv h
  obtain ⟨l, xs, i, y, rfl, rfl, hH, h0, h1, hz, q⟩ := h
  cases rx
  cases rv with
  | @cons _ u1 _ _ r1 rv =>
  cases rv with
  | @cons _ u2 _ _ r2 rv =>
  cases rv
  obtain ⟨t, rfl⟩ := r1
  obtain ⟨z, its, n, r, hl, e⟩ := I.lstM hH
  have hs : sizeLine = 16777216 := sizeLine_eq
  have hfit : ¬ (!Builtin.List.listFitsIndex i) = true := by
    rw [fitsIndex_both (by omega) (by omega)]
    exact Bool.false_ne_true
  refine call_meets F.slot_list_insert ⟨_, e, rfl⟩ F.entry_list_insert (F.args_list_insert_3 _ _ _) (PySem.AutoSeq1.list_insert_list_int_val_1 l its.toArray n i t u2 hfit (by rw [List.size_toArray]; omega)) ⟨e, ?_⟩
  refine ⟨.non, _, I.lset (its' := its.take i.toNat ++ u2 :: its.drop i.toNat) hH e ?_ (vals_ins r r2 i.toNat) ?_, rfl, q⟩
  · show (have k := if i < 0 then (i + ((its.toArray.size : Nat) : Int)).toNat else min i.toNat its.toArray.size; (its.toArray.extract 0 k).push u2 ++ its.toArray.extract k) = _
    have hk : min i.toNat its.toArray.size = i.toNat := by rw [List.size_toArray]; omega
    simp only [if_neg (show ¬ i < 0 by omega), hk]
    apply Array.toList_inj.mp
    simp
    exact List.take_of_length_le (by rw [List.length_drop]; exact Nat.le_refl _)
  · rw [List.length_append, List.length_cons, List.length_take, List.length_drop]; omega
/-- l != [] -/
theorem op_neL_nil (hu : X.A.units < cLine) : OpR X (compareOp .NotEq) (fun x y H Q => ∃ a b xs, x = .ref a ∧ y = .ref b ∧ SqL X.K H a xs ∧ SqL X.K H b [] ∧ Q (.bl (!xs.isEmpty)) H) := by
  intro pins s σ H x y v u Q I rx ry h
  obtain ⟨a, b, xs, rfl, rfl, ha, hb, q⟩ := h
  cases rx
  cases ry
  obtain ⟨its, r1, p1, _⟩ := I.list ha
  obtain ⟨its2, r2, p2, _⟩ := I.list hb
  cases r2
  cases xs with
  | nil =>
    cases r1
    exact SeqAt.RcNeAt.lists (e := fun _ => true) p1.isList p2.isList rfl hu (fun j h1 _ => absurd h1 (by simp)) _ _ _ _ ⟨.bl false, H, I, rfl, q⟩
  | cons c r =>
    have hl1 := r1.length
    exact SeqAt.RcNeAt.lists_lengths p1.isList p2.isList (by rw [bne_iff_ne]; intro z; simp only [List.size_toArray, List.length_nil, List.length_cons] at z hl1; omega) hu _ _ _ _ ⟨.bl true, H, I, rfl, q⟩
end
end L2

set_option Elab.async false
set_option linter.all false
set_option maxRecDepth 100000
set_option maxHeartbeats 4000000
/-! for x, y in zip(l, m): two lists of one length -/
namespace L2
open PySem PySem.Spec PyProof.Rows
def ItZl (K : PySem.W.Frag) (a b : Addr) : It :=
  ⟨fun i H => ∃ xs ys x y, SqL K H a xs ∧ SqL K H b ys ∧ xs[i]? = some x ∧ ys[i]? = some y,
   fun i H x H' => ∃ p u v, (∀ xs, SqL K H a xs → xs[i]? = some u) ∧ (∀ ys, SqL K H b ys → ys[i]? = some v) ∧ H p = none ∧ x = .ref p ∧ H' = upd H p (.tup [u, v]),
   fun i H => ∃ xs ys, SqL K H a xs ∧ SqL K H b ys ∧ xs.length = i ∧ ys.length = i⟩
def ZipSt (n a b : Addr) (i : Nat) (h : Heap) : Prop := IsZip h (n + 4) (n + 2) (n + 3) .none ∧ IsPair h (n + 2) (.ref n) (.ref (n + 1)) ∧ (∃ x y, IsPair h (n + 3) x y) ∧ h.IsListIter n a i ∧ h.IsListIter (n + 1) b i
def zipFp (n : Addr) : List Addr := [n + 4, n + 2, n + 3, n, n + 1]
theorem ZipSt.obj {n a b : Addr} {i : Nat} {h : Heap} (st : ZipSt n a b i h) : ∀ c ∈ zipFp n, ∃ o, h.get? c = some o ∧ ∀ v, o.data ≠ .cell v := by
  obtain ⟨h1, h2, ⟨x, y, h3⟩, ⟨o4, e4, c4, d4⟩, ⟨o5, e5, c5, d5⟩⟩ := st
  intro c hc
  simp only [zipFp, List.mem_cons, List.not_mem_nil, or_false] at hc
  rcases hc with rfl | rfl | rfl | rfl | rfl
  · exact ⟨_, h1, fun v z => nomatch z⟩
  · exact ⟨_, h2, fun v z => nomatch z⟩
  · exact ⟨_, h3, fun v z => nomatch z⟩
  · exact ⟨o4, e4, fun v z => by rw [d4] at z; cases z⟩
  · exact ⟨o5, e5, fun v z => by rw [d5] at z; cases z⟩
theorem ZipSt.keep {n a b : Addr} {i : Nat} {h h' : Heap} (st : ZipSt n a b i h) (kk : ∀ c ∈ zipFp n, ∀ o, h.get? c = some o → h'.get? c = some o) : ZipSt n a b i h' := by
  obtain ⟨h1, h2, ⟨x, y, h3⟩, ⟨o4, e4, r4⟩, ⟨o5, e5, r5⟩⟩ := st
  exact ⟨kk _ (by simp [zipFp]) _ h1, kk _ (by simp [zipFp]) _ h2, ⟨x, y, kk _ (by simp [zipFp]) _ h3⟩, ⟨o4, kk _ (by simp [zipFp]) _ e4, r4⟩, ⟨o5, kk _ (by simp [zipFp]) _ e5, r5⟩⟩
theorem turn_zipL {P : Program} {w : World} {K : PySem.W.Frag} {elts : List Expr} {k : Nat} {pos : Pos} (n a b : Addr) (ha : a < n) (hb : b < n) :
    Turn P w K (.Tuple elts k pos) (ItZl K a b) (zipFp n) (n + 4) (ZipSt n a b) where
  mem := by simp [zipFp]
  obj := fun i h st => st.obj
  keep := fun i h h' st kk => st.keep kk
  item := by
    intro X hP hw hK hc i pins s σ H E I hf st hg
    subst hP hw hK
    obtain ⟨xs, ys, x, y, hq1, hq2, hx, hy⟩ := hg
    obtain ⟨its1, rv1, p1, hz1⟩ := I.list hq1
    obtain ⟨its2, rv2, p2, hz2⟩ := I.list hq2
    obtain ⟨u1, hu1, ru1⟩ := rv1.get hx
    obtain ⟨u2, hu2, ru2⟩ := rv2.get hy
    have W := WalksT.zip2 (prog := X.prog) (w := X.w) (A := X.A) (I.ok.hd hc) (n + 4) (n + 2) (n + 3) n (n + 1) a b (PySem.W.ktu_apart n a b ha hb) its1.toArray its2.toArray
    have g1 := (List.getElem?_eq_some_iff.mp hu1).1
    have g2 := (List.getElem?_eq_some_iff.mp hu2).1
    have hsub : ∀ c, c ∈ [n + 4, n + 3, n, n + 1] → c ∈ zipFp n := fun c hc => by
      simp only [zipFp, List.mem_cons, List.not_mem_nil, or_false] at hc ⊢
      rcases hc with z | z | z | z <;> simp [z]
    have hfw : ∀ c ∈ [n + 4, n + 3, n, n + 1], FpOk X pins H c := fun c hc => hf c (hsub c hc)
    refine W.item i s _ _ (by simp only [List.size_toArray]; omega) ⟨st.1, st.2.1, st.2.2.1, st.2.2.2.1, st.2.2.2.2, p1.isList, p2.isList⟩ fun T vals h' tk hPt hT hTup hM hk => ?_
    obtain ⟨w1, w2, hw1, hw2, rfl⟩ := hPt
    have e1 : w1 = u1 := by
      have : its1[i]? = some w1 := by simpa using hw1
      rw [hu1] at this
      exact (Option.some.inj this).symm
    have e2 : w2 = u2 := by
      have : its2[i]? = some w2 := by simpa using hw2
      rw [hu2] at this
      exact (Option.some.inj this).symm
    subst e1 e2
    have I1 : Inv X pins σ H { s with heap := h', toks := tk } := I.turnedL hk hfw
    have hHT : H T = none := I.hok.fresh hT
    have fT : FpOk X pins H T := I.fpOk hT hHT
    refine ⟨_, rfl, W.go elts k pos i T { s with heap := h', toks := tk } _ _ hM fun h2 st2 hk2 => ?_⟩
    have I2' := I1.turnedL (h' := h2) (t' := tk) hk2 hfw
    have I2 : Inv X pins σ H { s with heap := h2, toks := tk } := I2'
    have hT2 : h2.IsTuple T #[w1, w2] := by
      obtain ⟨o, ho, r⟩ := hTup
      exact ⟨o, hk2 T o (W.apart i T h' hM) ho, r⟩
    have I3 : Inv X pins σ (upd H T (.tup [x, y])) { s with heap := h2, toks := tk } :=
      I2.track fT ⟨by show 2 ≤ sizeLine; decide, [w1, w2], .cons ru1 (.cons ru2 .nil), hT2⟩
    refine ⟨.ref T, _, I3, rfl, ⟨T, x, y, fun zs hz' => by rw [I.list_inj hz' hq1]; exact hx, fun zs hz' => by rw [I.list_inj hz' hq2]; exact hy, hHT, rfl, rfl⟩, ⟨st2.1, st2.2.1, st2.2.2.1, st2.2.2.2.1, st2.2.2.2.2.1⟩, fun c hc' => ?_⟩
    obtain ⟨o, ho, _⟩ := st.obj c hc'
    have hlt := Heap.lt_size ho
    rw [upd_ne (fun z => by rw [z] at hlt; exact absurd hlt (Nat.not_lt.mpr hT))]
    exact (hf c hc').1
  done := by
    intro X hP hw hK hc i pins s σ H E I hf st hg
    subst hP hw hK
    obtain ⟨xs, ys, hq1, hq2, hx, hy⟩ := hg
    obtain ⟨its1, rv1, p1, hz1⟩ := I.list hq1
    obtain ⟨its2, rv2, p2, hz2⟩ := I.list hq2
    have W := WalksT.zip2 (prog := X.prog) (w := X.w) (A := X.A) (I.ok.hd hc) (n + 4) (n + 2) (n + 3) n (n + 1) a b (PySem.W.ktu_apart n a b ha hb) its1.toArray its2.toArray
    have l1 := rv1.length
    have l2 := rv2.length
    have hmin : min its1.toArray.size its2.toArray.size = i := by simp only [List.size_toArray]; omega
    rw [hmin] at W
    have hsub : ∀ c, c ∈ [n + 4, n + 3, n, n + 1] → c ∈ zipFp n := fun c hc => by
      simp only [zipFp, List.mem_cons, List.not_mem_nil, or_false] at hc ⊢
      rcases hc with z | z | z | z <;> simp [z]
    refine W.done s _ _ ⟨st.1, st.2.1, st.2.2.1, st.2.2.2.1, st.2.2.2.2, p1.isList, p2.isList⟩ fun h' tk hk => ⟨rfl, ?_⟩
    exact I.turnedL hk fun c hc => hf c (hsub c hc)
  self := fun _ _ _ _ _ st h => wpAny_pyIter_zip st.1 h
section
variable {X : Cx} {elts : List Expr} {k : Nat} {tpos : Pos}
def iZipL (K : PySem.W.Frag) (ta : TA) : TI := fun σ H R => ta σ H fun vs H1 => ∃ a b, vs = [.ref a, .ref b] ∧ (∃ xs, SqL K H1 a xs) ∧ (∃ ys, SqL K H1 b ys) ∧ R (ItZl K a b) H1
theorem pi_zipL {e1 e2 : Expr} {ta : TA} {p pos : Pos} (hg : Gl X "zip") (hm : X.mg "zip" = none) (ha : PA X [e1, e2] ta) (hs : starEach [e1, e2] X.env = (false, eval e1 X.env) :: starEach [e2] X.env := by rfl) (hs2 : ∀ pos, (backTo pos (starEach [e2] X.env)).any (·.1) = false := by intro _; rfl) :
    PI X (.Tuple elts k tpos) (.Call (.Name "zip" p) [e1, e2] [] pos) (iZipL X.K ta) := by
  intro pins s σ H R I h
  refine Call_ (ld_blt I hg hm boot_zip (PyProof.Rows.callWith_type1 (thn (ha pos pins s σ H _ I h) fun us s1 ⟨vs, H1, I1, r1, q1⟩ => ?_) hs (hs2 _)))
  obtain ⟨a, b, e, ⟨xs, hq1⟩, ⟨ys, hq2⟩, q⟩ := q1
  subst e
  cases r1 with
  | cons ra rr =>
  cases rr with
  | cons rb rr =>
    cases rr
    cases ra
    cases rb
    obtain ⟨its1, rv1, p1, hz1⟩ := I1.list hq1
    obtain ⟨its2, rv2, p2, hz2⟩ := I1.list hq2
    have la : a < s1.heap.objs.size := by obtain ⟨o, ho, _⟩ := p1.isList; exact Heap.lt_size ho
    have lb : b < s1.heap.objs.size := by obtain ⟨o, ho, _⟩ := p2.isList; exact Heap.lt_size ho
    refine call_zip_2 p1.isList p2.isList fun h' z1 z2 z3 z4 z5 z6 hk => ?_
    have I2 : Inv X pins σ H1 { s1 with heap := h' } := I1.kept (t' := s1.toks) hk
    refine wpAny_pyIter_zip z1 ⟨s1.heap.objs.size + 4, zipFp s1.heap.objs.size, _, _, H1, rfl, I2, turn_zipL s1.heap.objs.size a b la lb, ⟨z1, z2, ⟨_, _, z3⟩, z4, z5⟩, fun c hc => ?_, q⟩
    have hc' : s1.heap.objs.size ≤ c := by
      simp only [zipFp, List.mem_cons, List.not_mem_nil, or_false] at hc
      rcases hc with z | z | z | z | z <;> rw [z] <;> first | exact Nat.le_refl _ | exact Nat.le_add_right _ _
    exact I1.fpOk hc' (I1.hok.fresh hc')
end
theorem for_zipL {K : PySem.W.Frag} {a b : Addr} {xs ys : List V} {g : TG} {tb : TS} {D : Ends} {σ : St} {H : Hp} (Pv : Nat → St → Hp → Prop) (hlen : xs.length = ys.length) (h0 : Pv 0 σ H) (hl : ∀ i σ H, i ≤ xs.length → Pv i σ H → SqL K H a xs ∧ SqL K H b ys)
    (hs : ∀ i x y p σ H, xs[i]? = some x → ys[i]? = some y → Pv i σ H → H p = none → g (.ref p) σ (upd H p (.tup [x, y])) fun σ2 H2 => tb { D with nx := Pv (i + 1), ct := Pv (i + 1), bk := D.nx } σ2 H2) (hd : ∀ σ H, Pv xs.length σ H → D.nx σ H) :
    ∃ W : Nat → Nat → St → Hp → Prop, (∃ m, W 0 m σ H) ∧ ∀ i m σ H, W i m σ H →
      ((ItZl K a b).stop i H ∧ D.nx σ H) ∨ ((ItZl K a b).go i H ∧ ∃ N : St → Hp → Prop, (∀ σ' H', N σ' H' → ∃ m', m' < m ∧ W (i + 1) m' σ' H') ∧ ∀ x H', (ItZl K a b).yld i H x H' → g x σ H' fun σ2 H2 => tb { D with nx := N, ct := N, bk := D.nx } σ2 H2) := by
  refine ⟨fun i m σ H => m = xs.length - i ∧ i ≤ xs.length ∧ Pv i σ H, ⟨xs.length, by simp, Nat.zero_le _, h0⟩, ?_⟩
  rintro i m σ H ⟨rfl, hi, p⟩
  have q := hl i σ H hi p
  by_cases hlt : i < xs.length
  · have hlt2 : i < ys.length := by omega
    refine .inr ⟨⟨xs, ys, xs[i], ys[i], q.1, q.2, by simp [hlt], by simp [hlt2]⟩, Pv (i + 1), fun σ' H' p' => ⟨xs.length - (i + 1), by omega, rfl, hlt, p'⟩, fun x H' y => ?_⟩
    obtain ⟨pp, u, v, y1, y2, hn, e1, e2⟩ := y
    subst e1 e2
    exact hs i u v pp σ _ (y1 xs q.1) (y2 ys q.2) p hn
  · have e : i = xs.length := by omega
    subst e
    exact .inl ⟨⟨xs, ys, q.1, q.2, rfl, hlen.symm⟩, hd σ H p⟩
end L2

set_option Elab.async false
set_option linter.all false
set_option maxRecDepth 100000
set_option maxHeartbeats 4000000
/-! houses of parts, while the laws of the net draw them -/
namespace L2
open PySem PySem.Spec PyProof.Rows
/-- a row that is drawn, not yet finished -/
inductive Pr where
  | own (k n : Str) (xs : List Int)
  | bring (j : Nat) (ps : List (Str × Str)) (xs : List Int)
  | give (o g : Str) (xs : List Int)
  | ask (j : Nat) (xs : List Int)
  | sum (k : Str) (xs : List Int)
structure Pp where
  rows : List Pr
  owns : List Str
  gives : List Str
  sh : Int
def XsAt (H : Hp) (F : Addr → Prop) (x : Addr) (xs : List Int) : Prop := H x = some (.lst (xs.map V.int)) ∧ ¬ F x
def PrAt (H : Hp) (F : Addr → Prop) (v : V) : Pr → Prop
  | .own k n xs => ∃ t x, v = .ref t ∧ H t = some (.tup [.str k, .str n, .ref x]) ∧ XsAt H F x xs
  | .bring j ps xs => ∃ t u q x, v = .ref t ∧ H t = some (.tup [.str "bring", .ref u, .ref x]) ∧ H u = some (.tup [.int j, .ref q]) ∧ PairsAt H q ps ∧ XsAt H F x xs
  | .give o g xs => ∃ t u x, v = .ref t ∧ H t = some (.tup [.str "give", .ref u, .ref x]) ∧ H u = some (.tup [.str o, .str g]) ∧ XsAt H F x xs
  | .ask j xs => ∃ t x, v = .ref t ∧ H t = some (.tup [.str "ask", .int j, .ref x]) ∧ XsAt H F x xs
  | .sum k xs => ∃ t x, v = .ref t ∧ H t = some (.tup [.str k, .non, .ref x]) ∧ XsAt H F x xs
/-- all that stands outside F stays -/
def Keep (F : Addr → Prop) (H H' : Hp) : Prop := ∀ a o, ¬ F a → H a = some o → H' a = some o
theorem PrAt.keep {H H' : Hp} {F F' : Addr → Prop} (ht : Tups H H') (hk : ∀ x xs, ¬ F x → H x = some (.lst xs) → H' x = some (.lst xs) ∧ ¬ F' x) {v : V} {pr : Pr} (h : PrAt H F v pr) : PrAt H' F' v pr := by
  have X : ∀ {x xs}, XsAt H F x xs → XsAt H' F' x xs := fun {x xs} z => hk x _ z.2 z.1
  cases pr with
  | own k n xs => obtain ⟨t, x, e, h1, h2⟩ := h; exact ⟨t, x, e, ht _ _ h1, X h2⟩
  | bring j ps xs => obtain ⟨t, u, q, x, e, h1, h2, h3, h4⟩ := h; exact ⟨t, u, q, x, e, ht _ _ h1, ht _ _ h2, h3.mono ht, X h4⟩
  | give o g xs => obtain ⟨t, u, x, e, h1, h2, h3⟩ := h; exact ⟨t, u, x, e, ht _ _ h1, ht _ _ h2, X h3⟩
  | ask j xs => obtain ⟨t, x, e, h1, h2⟩ := h; exact ⟨t, x, e, ht _ _ h1, X h2⟩
  | sum k xs => obtain ⟨t, x, e, h1, h2⟩ := h; exact ⟨t, x, e, ht _ _ h1, X h2⟩
/-- the four lists of a part -/
structure Q4 where
  p : Addr
  r : Addr
  o : Addr
  g : Addr
def Q4.nth (q : Q4) : Nat → Addr
  | 0 => q.p
  | 1 => q.r
  | 2 => q.o
  | _ => q.g
def inH (l : Addr) (A : List Q4) (ex : List Addr) (a : Addr) : Prop := a = l ∨ a ∈ ex ∨ ∃ (i : Nat) (q : Q4) (x : Nat), A[i]? = some q ∧ x < 4 ∧ q.nth x = a
structure PpAt (H : Hp) (F : Addr → Prop) (q : Q4) (pp : Pp) : Prop where
  p : H q.p = some (.lst [.ref q.r, .ref q.o, .ref q.g, .int pp.sh])
  r : ∃ vs, H q.r = some (.lst vs) ∧ Paired (PrAt H F) vs pp.rows
  o : H q.o = some (.lst (pp.owns.map V.str))
  g : H q.g = some (.lst (pp.gives.map V.str))
structure HouseAt (H : Hp) (l : Addr) (A : List Q4) (ex : List Addr) (hs : List Pp) : Prop where
  ll : H l = some (.lst (A.map fun q => V.ref q.p))
  len : A.length = hs.length
  pt : ∀ (i : Nat) (q : Q4) (pp : Pp), A[i]? = some q → hs[i]? = some pp → PpAt H (inH l A ex) q pp
  nl : ∀ (i : Nat) (q : Q4) (x : Nat), A[i]? = some q → x < 4 → q.nth x ≠ l
  xl : ∀ d ∈ ex, d ≠ l ∧ ∀ (i : Nat) (q : Q4) (x : Nat), A[i]? = some q → x < 4 → q.nth x ≠ d
  ap : ∀ (i j : Nat) (q u : Q4) (x y : Nat), A[i]? = some q → A[j]? = some u → x < 4 → y < 4 → q.nth x = u.nth y → i = j ∧ x = y
theorem PpAt.keep {H H' : Hp} {F : Addr → Prop} {q : Q4} {pp : Pp} (ht : Tups H H') (hk : ∀ x xs, ¬ F x → H x = some (.lst xs) → H' x = some (.lst xs)) (h4 : ∀ x, x < 4 → H' (q.nth x) = H (q.nth x)) (h : PpAt H F q pp) : PpAt H' F q pp where
  p := (h4 0 (by omega)).trans h.p
  r := by
    obtain ⟨vs, h1, h2⟩ := h.r
    exact ⟨vs, (h4 1 (by omega)).trans h1, Paired.mapP h2 fun _ _ z => z.keep ht fun x xs hx hv => ⟨hk x xs hx hv, hx⟩⟩
  o := (h4 2 (by omega)).trans h.o
  g := (h4 3 (by omega)).trans h.g
/-- what stands outside stays: the house stays -/
theorem HouseAt.same {H H' : Hp} {l : Addr} {A : List Q4} {ex : List Addr} {hs : List Pp} (h : HouseAt H l A ex hs) (s : Same H H') : HouseAt H' l A ex hs where
  ll := s _ _ h.ll
  len := h.len
  pt := fun i q pp e1 e2 => by
    have z := h.pt i q pp e1 e2
    obtain ⟨vs, h1, h2⟩ := z.r
    exact ⟨s _ _ z.p, ⟨vs, s _ _ h1, Paired.mapP h2 fun _ _ y => y.keep s.tups fun x xs hx hv => ⟨s _ _ hv, hx⟩⟩, s _ _ z.o, s _ _ z.g⟩
  nl := h.nl
  xl := h.xl
  ap := h.ap
/-- one list of a part is written anew -/
theorem HouseAt.put {H : Hp} {l : Addr} {A : List Q4} {ex : List Addr} {hs : List Pp} (h : HouseAt H l A ex hs) {i : Nat} {q : Q4} {pp pp' : Pp} {x : Nat} {vs' : List V} (e1 : A[i]? = some q) (e2 : hs[i]? = some pp) (hx : x < 4)
    (hn : ∀ H', H' = upd H (q.nth x) (.lst vs') → Tups H H' → (∀ y ys, ¬ inH l A ex y → H y = some (.lst ys) → H' y = some (.lst ys)) → (∀ y, y < 4 → y ≠ x → H' (q.nth y) = H (q.nth y)) → PpAt H' (inH l A ex) q pp') (hl : ∃ xs, H (q.nth x) = some (.lst xs)) :
    HouseAt (upd H (q.nth x) (.lst vs')) l A ex (hs.set i pp') := by
  obtain ⟨xs, hl⟩ := hl
  have T : Tups H (upd H (q.nth x) (.lst vs')) := Tups.lst hl
  have K : ∀ y ys, ¬ inH l A ex y → H y = some (.lst ys) → upd H (q.nth x) (.lst vs') y = some (.lst ys) := fun y ys hy hv => by
    rw [upd_ne (fun z => hy (Or.inr (Or.inr ⟨i, q, x, e1, hx, z.symm⟩)))]
    exact hv
  refine ⟨?_, by rw [List.length_set]; exact h.len, fun j u up f1 f2 => ?_, h.nl, h.xl, h.ap⟩
  · rw [upd_ne (h.nl i q x e1 hx).symm]
    exact h.ll
  · by_cases hij : i = j
    · subst hij
      rw [e1] at f1
      cases f1
      rw [List.getElem?_set_self ((List.getElem?_eq_some_iff.mp e2).1)] at f2
      cases f2
      refine hn _ rfl T K fun y hy hne => ?_
      rw [upd_ne (fun z => hne (h.ap i i q q y x e1 e1 hy hx z).2)]
    · rw [List.getElem?_set_ne hij] at f2
      refine (h.pt j u up f1 f2).keep T K fun y hy => ?_
      rw [upd_ne (fun z => hij (h.ap j i u q y x f1 e1 hy hx z).1.symm)]
/-- a part more, its lists new -/
theorem HouseAt.add {H H4 : Hp} {l : Addr} {A : List Q4} {hs : List Pp} (h : HouseAt H l A [] hs) {q : Q4} {c : Int} (s : Same H H4) (hnew : ∀ x, x < 4 → H (q.nth x) = none) (hdis : ∀ x y, x < 4 → y < 4 → q.nth x = q.nth y → x = y)
    (hp : H4 q.p = some (.lst [.ref q.r, .ref q.o, .ref q.g, .int c])) (hr : H4 q.r = some (.lst [])) (ho : H4 q.o = some (.lst [])) (hg : H4 q.g = some (.lst [])) :
    HouseAt (upd H4 l (.lst ((A.map fun q => V.ref q.p) ++ [.ref q.p]))) l (A ++ [q]) [] (hs ++ [⟨[], [], [], c⟩]) := by
  have hql : ∀ x, x < 4 → q.nth x ≠ l := fun x hx z => by
    have := hnew x hx
    rw [z, h.ll] at this
    cases this
  have hqa : ∀ (i : Nat) (u : Q4) (x y : Nat), A[i]? = some u → x < 4 → y < 4 → u.nth y ≠ q.nth x := fun i u x y e hx hy z => by
    have h1 := hnew x hx
    rw [← z] at h1
    have hi := (List.getElem?_eq_some_iff.mp e).1
    have hi2 : i < hs.length := by rw [← h.len]; exact hi
    have e2 : hs[i]? = some hs[i] := by simp [hi2]
    have P := h.pt i u _ e e2
    obtain ⟨vs, r1, _⟩ := P.r
    have : y = 0 ∨ y = 1 ∨ y = 2 ∨ y = 3 := by omega
    rcases this with rfl | rfl | rfl | rfl
    · rw [show H (u.nth 0) = _ from P.p] at h1; cases h1
    · rw [show H (u.nth 1) = _ from r1] at h1; cases h1
    · rw [show H (u.nth 2) = _ from P.o] at h1; cases h1
    · rw [show H (u.nth 3) = _ from P.g] at h1; cases h1
  have T : Tups H (upd H4 l (.lst ((A.map fun q => V.ref q.p) ++ [.ref q.p]))) := s.tups.trans (Tups.lst (s _ _ h.ll))
  have hget : ∀ (i : Nat) (u : Q4), (A ++ [q])[i]? = some u → (A[i]? = some u) ∨ (i = A.length ∧ u = q) := fun i u e => by
    by_cases hi : i < A.length
    · rw [List.getElem?_append_left hi] at e
      exact .inl e
    · rw [List.getElem?_append_right (by omega)] at e
      have h0 : i - A.length = 0 := by
        have := (List.getElem?_eq_some_iff.mp e).1
        simp only [List.length_singleton] at this
        omega
      rw [h0] at e
      simp only [List.getElem?_cons_zero, Option.some.injEq] at e
      exact .inr ⟨by omega, e.symm⟩
  refine ⟨?_, by rw [List.length_append, List.length_append, h.len]; rfl, fun i u pp e1 e2 => ?_, fun i u x e hx => ?_, fun d hd => by simp at hd, fun i j u v x y e1 e2 hx hy z => ?_⟩
  · rw [upd_same, List.map_append]; rfl
  · rcases hget i u e1 with f1 | ⟨f1, rfl⟩
    · have hi := (List.getElem?_eq_some_iff.mp f1).1
      rw [List.getElem?_append_left (by rw [← h.len]; exact hi)] at e2
      have P := h.pt i u pp f1 e2
      have hne : ∀ x, x < 4 → upd H4 l (.lst ((A.map fun q => V.ref q.p) ++ [.ref q.p])) (u.nth x) = H4 (u.nth x) := fun x hx => upd_ne (h.nl i u x f1 hx)
      obtain ⟨vs, r1, r2⟩ := P.r
      refine ⟨(hne 0 (by omega)).trans (s _ _ P.p), ⟨vs, (hne 1 (by omega)).trans (s _ _ r1), Paired.mapP r2 fun _ _ y => y.keep T fun x xs hx hv => ⟨?_, ?_⟩⟩, (hne 2 (by omega)).trans (s _ _ P.o), (hne 3 (by omega)).trans (s _ _ P.g)⟩
      · rw [upd_ne (fun z => hx (Or.inl z))]
        exact s _ _ hv
      · rintro (z | z | ⟨j, v, y, g1, g2, g3⟩)
        · exact hx (Or.inl z)
        · simp at z
        · rcases hget j v g1 with g1 | ⟨g1, rfl⟩
          · exact hx (Or.inr (Or.inr ⟨j, v, y, g1, g2, g3⟩))
          · have := hnew y g2
            rw [g3, hv] at this
            cases this
    · rw [f1, h.len, List.getElem?_append_right (Nat.le_refl _), Nat.sub_self] at e2
      simp only [List.getElem?_cons_zero, Option.some.injEq] at e2
      subst e2
      have hne : ∀ x, x < 4 → upd H4 l (.lst ((A.map fun q => V.ref q.p) ++ [.ref u.p])) (u.nth x) = H4 (u.nth x) := fun x hx => upd_ne (hql x hx)
      exact ⟨(hne 0 (by omega)).trans hp, ⟨[], (hne 1 (by omega)).trans hr, .nil⟩, (hne 2 (by omega)).trans ho, (hne 3 (by omega)).trans hg⟩
  · rcases hget i u e with f1 | ⟨f1, rfl⟩
    · exact h.nl i u x f1 hx
    · exact hql x hx
  · rcases hget i u e1 with f1 | ⟨f1, rfl⟩
    · rcases hget j v e2 with g1 | ⟨g1, rfl⟩
      · exact h.ap i j u v x y f1 g1 hx hy z
      · exact absurd z (hqa i u y x f1 hy hx)
    · rcases hget j v e2 with g1 | ⟨g1, rfl⟩
      · exact absurd z.symm (hqa j v x y g1 hx hy)
      · exact ⟨by omega, hdis x y hx hy z⟩
/-- every list of the house stands -/
theorem HouseAt.there {H : Hp} {l : Addr} {A : List Q4} {ex : List Addr} {hs : List Pp} (h : HouseAt H l A ex hs) {i : Nat} {q : Q4} {x : Nat} (e : A[i]? = some q) (hx : x < 4) : ∃ xs, H (q.nth x) = some (.lst xs) := by
  have hi := (List.getElem?_eq_some_iff.mp e).1
  have hi2 : i < hs.length := by rw [← h.len]; exact hi
  have P := h.pt i q hs[i] e (by simp [hi2])
  obtain ⟨vs, r1, _⟩ := P.r
  have : x = 0 ∨ x = 1 ∨ x = 2 ∨ x = 3 := by omega
  rcases this with rfl | rfl | rfl | rfl
  · exact ⟨_, P.p⟩
  · exact ⟨_, r1⟩
  · exact ⟨_, P.o⟩
  · exact ⟨_, P.g⟩
/-- a new address is set aside -/
theorem HouseAt.aside {H : Hp} {l d : Addr} {A : List Q4} {ex : List Addr} {hs : List Pp} (h : HouseAt H l A ex hs) (hd : H d = none) : HouseAt H l A (d :: ex) hs where
  ll := h.ll
  len := h.len
  pt := fun i q pp e1 e2 => by
    have P := h.pt i q pp e1 e2
    obtain ⟨vs, r1, r2⟩ := P.r
    refine ⟨P.p, ⟨vs, r1, Paired.mapP r2 fun _ _ y => y.keep (Tups.refl H) fun x xs hx hv => ⟨hv, ?_⟩⟩, P.o, P.g⟩
    rintro (z | z | z)
    · exact hx (Or.inl z)
    · rcases List.mem_cons.mp z with z | z
      · rw [z, hd] at hv; cases hv
      · exact hx (Or.inr (Or.inl z))
    · exact hx (Or.inr (Or.inr z))
  nl := h.nl
  xl := fun c hc => by
    rcases List.mem_cons.mp hc with z | z
    · rw [z]
      refine ⟨fun y => ?_, fun i q x e hx y => ?_⟩
      · rw [y, h.ll] at hd; cases hd
      · obtain ⟨xs, hxs⟩ := h.there e hx
        rw [y, hd] at hxs; cases hxs
    · exact h.xl c z
  ap := h.ap
/-- .. and is no longer -/
theorem HouseAt.back {H : Hp} {l d : Addr} {A : List Q4} {ex : List Addr} {hs : List Pp} (h : HouseAt H l A (d :: ex) hs) : HouseAt H l A ex hs where
  ll := h.ll
  len := h.len
  pt := fun i q pp e1 e2 => by
    have P := h.pt i q pp e1 e2
    obtain ⟨vs, r1, r2⟩ := P.r
    refine ⟨P.p, ⟨vs, r1, Paired.mapP r2 fun _ _ y => y.keep (Tups.refl H) fun x xs hx hv => ⟨hv, ?_⟩⟩, P.o, P.g⟩
    rintro (z | z | z)
    · exact hx (Or.inl z)
    · exact hx (Or.inr (Or.inl (List.mem_cons_of_mem _ z)))
    · exact hx (Or.inr (Or.inr z))
  nl := h.nl
  xl := fun c hc => h.xl c (List.mem_cons_of_mem _ hc)
  ap := h.ap
/-- a list that is set aside is written -/
theorem HouseAt.other {H : Hp} {l d : Addr} {A : List Q4} {ex : List Addr} {hs : List Pp} {xs ys : List V} (h : HouseAt H l A ex hs) (hd : d ∈ ex) (hx : H d = some (.lst xs)) : HouseAt (upd H d (.lst ys)) l A ex hs where
  ll := by rw [upd_ne (h.xl d hd).1.symm]; exact h.ll
  len := h.len
  pt := fun i q pp e1 e2 => (h.pt i q pp e1 e2).keep (Tups.lst hx) (fun x zs hn hv => by rw [upd_ne (fun z => hn (Or.inr (Or.inl (by rw [z]; exact hd))))]; exact hv) fun x hx => upd_ne ((h.xl d hd).2 i q x e1 hx)
  nl := h.nl
  xl := h.xl
  ap := h.ap
end L2

set_option Elab.async false
set_option linter.all false
set_option maxRecDepth 100000
set_option maxHeartbeats 4000000
namespace L2
open PySem PySem.Spec PyProof.Rows
theorem sg_all : ∀ i : Nat, i < 36 → isSg (("abcdefghijklmnopqrstuvwxyz0123456789" : Str).cps.toList.getD i 0) = true := by decide +kernel
theorem letAt_let {i : Int} (h0 : 0 ≤ i) (h1 : i < 26) : isLet (letAt i) = true := lets_let i.toNat (by omega)
theorem sgAt_sg {i : Int} (h0 : 0 ≤ i) (h1 : i < 36) : isSg (sgAt i) = true := sg_all i.toNat (by omega)
theorem let_sg {c : Nat} (h : isLet c = true) : isSg c = true := by unfold isSg; rw [h]; rfl
theorem nameOk_of {l : List Nat} {c : Nat} {r : List Nat} (e : l = c :: r) (hc : isLet c = true) (hr : ∀ x ∈ r, isSg x = true) (hl : r.length ≤ 7) : NameOk ⟨l.toArray⟩ := by
  subst e
  show (isLet c && r.all isSg && decide (r.length ≤ 7)) = true
  rw [hc, List.all_eq_true.mpr hr, decide_eq_true hl]
  rfl
theorem num24_sg : ∀ i : Nat, i < 24 → (∀ c ∈ (Str.ofString (toString (i : Int))).cps.toList, isSg c = true) ∧ (Str.ofString (toString (i : Int))).cps.toList.length ≤ 2 := by decide +kernel
theorem nm3_sg (b k z : Int) (hb : 0 ≤ b) (hk : 0 ≤ k) : ∀ n, ∀ c ∈ nm3 b k z n, isSg c = true
  | 0, c, hc => by simp [nm3] at hc
  | n + 1, c, hc => by
    rcases List.mem_append.mp (show c ∈ nm3 b k z n ++ [_] from hc) with h | h
    · exact nm3_sg b k z hb hk n c h
    · rw [List.mem_singleton.mp h]
      split
      · exact let_sg (letAt_let (by omega) (by omega))
      · split
        · exact let_sg (letAt_let (by omega) (by omega))
        · exact sgAt_sg (by omega) (by omega)
theorem nameM_ok {b k : Int} (hb : 0 ≤ b) : NameOk (nameM b k) := by
  obtain ⟨r1, r2⟩ := turnK_rng b k
  unfold nameM
  generalize turnK b k = k' at *
  have hb' : 0 ≤ b / 144 := by omega
  generalize b / 144 = b' at *
  simp only
  split
  · refine nameOk_of (r := List.replicate (k' % 8).toNat (letAt ((b' / 4 + k' / 8) % 26))) (c := letAt ((b' / 4 + k' / 8) % 26)) ?_ (letAt_let (by omega) (by omega)) (fun x hx => ?_) ?_
    · rw [show (1 + k' % 8).toNat = (k' % 8).toNat + 1 by omega, List.replicate_succ]
    · rw [(List.mem_replicate.mp hx).2]
      exact let_sg (letAt_let (by omega) (by omega))
    · rw [List.length_replicate]; omega
  · split
    · obtain ⟨d1, d2⟩ := num24_sg k'.toNat (by omega)
      rw [show ((k'.toNat : Nat) : Int) = k' by omega] at d1 d2
      have e : (⟨(List.replicate (1 + b' / 104 % 6).toNat (letAt (b' / 4 % 26))).toArray⟩ : Str) ++ Str.ofString (toString k') = ⟨(List.replicate (1 + b' / 104 % 6).toNat (letAt (b' / 4 % 26)) ++ (Str.ofString (toString k')).cps.toList).toArray⟩ := by
        show (⟨(List.replicate (1 + b' / 104 % 6).toNat (letAt (b' / 4 % 26))).toArray ++ (Str.ofString (toString k')).cps⟩ : Str) = _
        congr 1
        apply Array.toList_inj.mp
        simp
      rw [e]
      refine nameOk_of (c := letAt (b' / 4 % 26)) (r := List.replicate (b' / 104 % 6).toNat (letAt (b' / 4 % 26)) ++ (Str.ofString (toString k')).cps.toList) ?_ (letAt_let (by omega) (by omega)) (fun x hx => ?_) ?_
      · rw [show (1 + b' / 104 % 6).toNat = (b' / 104 % 6).toNat + 1 by omega, List.replicate_succ]; rfl
      · rcases List.mem_append.mp hx with h | h
        · rw [(List.mem_replicate.mp h).2]
          exact let_sg (letAt_let (by omega) (by omega))
        · exact d1 x h
      · rw [List.length_append, List.length_replicate]; omega
    · have hz : 0 < 1 + b' / 4 % 8 := by omega
      have hz8 : 1 + b' / 4 % 8 ≤ 8 := by omega
      generalize 1 + b' / 4 % 8 = z at *
      have hl := nm3_len b' k' z z.toNat
      have hs := nm3_sg b' k' z hb' r1 z.toNat
      have h0 := nm3_get b' k' z z.toNat 0 (by omega)
      cases e : nm3 b' k' z z.toNat with
      | nil => rw [e] at hl; simp at hl; omega
      | cons c r =>
        rw [e] at hl hs h0
        refine nameOk_of rfl ?_ (fun x hx => hs x (List.mem_cons_of_mem _ hx)) (by simp only [List.length_cons] at hl; omega)
        simp only [List.getElem?_cons_zero, Option.some.injEq] at h0
        rw [h0]
        split
        · exact letAt_let (by omega) (by omega)
        · rw [if_pos (by rfl)]
          exact letAt_let (by omega) (by omega)
def drawnN (b sh : Int) (n : Nat) : List Str := (List.range n).map fun (j : Nat) => nameM b (((j : Int) + sh) % 24)
theorem drawnN_len (b sh : Int) (n : Nat) : (drawnN b sh n).length = n := by unfold drawnN; simp
theorem drawnN_succ (b sh : Int) (n : Nat) : drawnN b sh (n + 1) = drawnN b sh n ++ [nameM b (((n : Int) + sh) % 24)] := by
  unfold drawnN; rw [List.range_succ, List.map_append]; rfl
theorem drawnN_ok {b sh : Int} {n : Nat} (hb : 0 ≤ b) : ∀ x ∈ drawnN b sh n, NameOk x := fun x hx => by
  obtain ⟨j, _, rfl⟩ := List.mem_map.mp hx
  exact nameM_ok hb
end L2

set_option Elab.async false
set_option linter.all false
set_option maxRecDepth 100000
set_option maxHeartbeats 4000000
/-! reversed(t) of a tuple: the object that it makes, its turns, its size told ahead -/
namespace RV
open PySem PySem.Spec PyProof.Rows
theorem own_rv : Manifest.owners.lookup (String.ofList ['d', 'e', 's', 'r', 'e', 'v', 'e', 'r'].reverse) = some Manifest.sig_reversed := by kernel_rfl
theorem rv_next : Slot "reversed" "__next__" "reversed.__next__" :=
  .of (owner := "reversed") (n := "__next__") (by rw [typeLookup_type, builtinLookup_eq_fast]; kernel_rfl) (by decide +kernel) (by decide +kernel) (by decide +kernel)
    (by first | exact .inl (by decide +kernel) | exact .inr (by decide +kernel)) (by rw [isSubtype_type]; kernel_rfl)
theorem rv_iter : Slot "reversed" "__iter__" "reversed.__iter__" :=
  .of (owner := "reversed") (n := "__iter__") (by rw [typeLookup_type, builtinLookup_eq_fast]; kernel_rfl) (by decide +kernel) (by decide +kernel) (by decide +kernel)
    (by first | exact .inl (by decide +kernel) | exact .inr (by decide +kernel)) (by rw [isSubtype_type]; kernel_rfl)
theorem rv_hint : Slot "reversed" "__length_hint__" "reversed.__length_hint__" :=
  .of (owner := "reversed") (n := "__length_hint__") (by rw [typeLookup_type, builtinLookup_eq_fast]; kernel_rfl) (by decide +kernel) (by decide +kernel) (by decide +kernel)
    (by first | exact .inl (by decide +kernel) | exact .inr (by decide +kernel)) (by rw [isSubtype_type]; kernel_rfl)
theorem en_next : entryFor table "reversed.__next__" = some Builtin.«reversed.__next__» := entryFor_of_tree (by kernel_rfl)
theorem en_hint : entryFor table "reversed.__length_hint__" = some Builtin.«reversed.__length_hint__» := entryFor_of_tree (by kernel_rfl)
theorem en_iter : entryFor table "reversed.__iter__" = some Builtin.«dict_keyiterator.__iter__» :=
  entryFor_alias (id' := "dict_keyiterator.__iter__") (by kernel_rfl) (by first | rfl | decide +kernel | (unfold String.splitOn; simp +decide [String.splitOnAux])) (by decide +kernel) (by kernel_rfl)
theorem ar_next (a : Value) : argsOk "reversed.__next__" ⟨[a], []⟩ := by
  unfold argsOk; rw [signature?_of (id := "reversed.__next__") (n := ['_', '_', 't', 'x', 'e', 'n', '_', '_']) (o := ['d', 'e', 's', 'r', 'e', 'v', 'e', 'r']) (by kernel_rfl) own_rv]; kernel_rfl
theorem ar_iter (a : Value) : argsOk "reversed.__iter__" ⟨[a], []⟩ := by
  unfold argsOk; rw [signature?_of (id := "reversed.__iter__") (n := ['_', '_', 'r', 'e', 't', 'i', '_', '_']) (o := ['d', 'e', 's', 'r', 'e', 'v', 'e', 'r']) (by kernel_rfl) own_rv]; kernel_rfl
theorem ar_hint (a : Value) : argsOk "reversed.__length_hint__" ⟨[a], []⟩ := by
  unfold argsOk; rw [signature?_of (id := "reversed.__length_hint__") (n := ['_', '_', 't', 'n', 'i', 'h', '_', 'h', 't', 'g', 'n', 'e', 'l', '_', '_']) (o := ['d', 'e', 's', 'r', 'e', 'v', 'e', 'r']) (by kernel_rfl) own_rv]; kernel_rfl
theorem no_rev : typeLookup (.type "tuple") "__reversed__" = pure none := by rw [typeLookup_type, builtinLookup_eq_fast]; kernel_rfl
theorem no_len : typeLookup (.type "reversed") "__len__" = pure none := by rw [typeLookup_type, builtinLookup_eq_fast]; kernel_rfl
theorem tup_dict : isSubtype (.type "tuple") (.type "dict") = pure false := by rw [isSubtype_type]; kernel_rfl
theorem rv_rv : isSubtype (.type "reversed") (.type "reversed") = pure true := by rw [isSubtype_type]; kernel_rfl
theorem rv_init : Slot "reversed" "__init__" "object.__init__" :=
  .of (owner := "object") (n := "__init__") (by rw [typeLookup_type, builtinLookup_eq_fast]; kernel_rfl) (by decide +kernel) (by decide +kernel) (by decide +kernel)
    (by first | exact .inl (by decide +kernel) | exact .inr (by decide +kernel)) (by rw [isSubtype_type]; kernel_rfl)
theorem rv_called : TypeCalled "reversed" "reversed.__new__" "object.__init__" :=
  ⟨by decide +kernel, by decide +kernel, ⟨_, _, F.mro_reversed⟩, F.made_reversed, by decide +kernel, rv_rv, rv_init⟩
end RV

set_option Elab.async false
set_option linter.all false
set_option maxRecDepth 100000
set_option maxHeartbeats 4000000
namespace RV
open PySem PySem.Spec PyProof.Rows
def revT (t : Addr) (i : Int) : Obj := { cls := .type "reversed", data := .fields #[.ref t, rawInt i] }
def IsRevT (h : Heap) (a t : Addr) (i : Int) : Prop := ∃ o, h.get? a = some o ∧ o.cls = .type "reversed" ∧ o.data = .fields #[.ref t, rawInt i]
theorem IsRevT.move {h h' : Heap} {a t : Addr} {i : Int} (x : IsRevT h a t i) (e : ∀ o, h.get? a = some o → h'.get? a = some o) : IsRevT h' a t i := by
  obtain ⟨o, ho, r⟩ := x
  exact ⟨o, e o ho, r⟩
section
variable {prog : Program} {w : World} {A : Around} {E : Value → Shared → Prop} {s : Shared}
theorem IsRevT.ty {a t : Addr} {i : Int} (x : IsRevT s.heap a t i) : s.TypeIs (.ref a) "reversed" := by
  obtain ⟨o, ho, hc, _⟩ := x
  exact ⟨o, ho, hc⟩
theorem IsTup.move {h h' : Heap} {t : Addr} {its : Array Value} (x : IsTup h t its) (e : ∀ o, h.get? t = some o → h'.get? t = some o) : IsTup h' t its := by
  obtain ⟨o, ho, r⟩ := x
  exact ⟨o, e o ho, r⟩
theorem made_new {t : Addr} {its : Array Value} {Q₁ : Value → Shared → Prop} (ht : IsTup s.heap t its) (hz : its.size ≤ sizeLine)
    (q : ∀ tk, Q₁ (.ref s.heap.objs.size) { s with heap := s.heap.push (revT t ((its.size : Int) - 1)), toks := tk }) :
    codeAny (model prog w) A (.call (.builtin "reversed.__new__") ⟨[.type "reversed", .ref t], []⟩) (wants Q₁ E) s := by
  refine codeAny_of_tree ?_
  show wpAny _ A.in1 (checkBuiltinCall "reversed.__new__" ⟨[.type "reversed", .ref t], []⟩ >>= fun _ => again (.builtin "reversed.__new__" ⟨[.type "reversed", .ref t], []⟩)) _ _ s
  refine wpAny_bind (wpAny_of_eq (F.newCall_reversed_1 _) (wpAny_pure ⟨plainId_quiet F.plain_reversed_new _, codeAny_builtin F.entry_reversed_new ?_⟩))
  rw [Around.under_plainId F.plain_reversed_new _]
  unfold Builtin.«reversed.__new__»
  refine wpAny_bind (wpAny_of_eq (newClass_reversed _) ?_)
  try dsimp only
  refine wpAny_bind (wpAny_of_eq (a := ()) (by first | rfl | kernel_rfl) ?_)
  refine wpAny_bind (wpAny_of_eq (a := ()) (by first | rfl | kernel_rfl) ?_)
  try dsimp only
  refine wpAny_bind (wpAny_specialOf ht.typeIs no_rev ?_)
  try dsimp only
  refine wpAny_bind (wpAny_bind (wpAny_isInstance ht.typeIs tup_dict ?_))
  rw [if_neg Bool.false_ne_true]
  refine wpAny_bind (wpAny_specialOf ht.typeIs slot_tuple_getitem.lookup ?_)
  show wpAny _ _ (if (["tuple.__getitem__", "str.__getitem__", "bytes.__getitem__", "bytearray.__getitem__", "memoryview.__getitem__", "numpy.ndarray.__getitem__", "sqlite3.Row.__getitem__"].contains "tuple.__getitem__") = true then pure true else _) _ _ s
  rw [if_pos (by decide +kernel)]
  refine wpAny_pure ?_
  rw [if_neg (by decide)]
  have hfit : (its.size : Int) < 2 ^ 63 := by have : sizeLine = 16777216 := sizeLine_eq; omega
  refine wpAny_bind (len_tuple ht hfit ?_)
  refine wpAny_bind (wpAny_of_eq (a := some (its.size : Int)) rfl ?_)
  show wpAny _ _ (newObj (Value.type "reversed") (.fields #[Value.ref t, rawInt ((its.size : Int) - 1)]) >>= _) _ _ _
  refine wpAny_bind (wpAny_newObj_type (wpAny_pure ?_))
  exact q _
theorem call_rev {t : Addr} {its : Array Value} {Q : Value → Shared → Prop} (ht : IsTup s.heap t its) (hz : its.size ≤ sizeLine)
    (q : ∀ tk, Q (.ref s.heap.objs.size) { s with heap := s.heap.push (revT t ((its.size : Int) - 1)), toks := tk }) : wpAny (model prog w) A (call (.type "reversed") [.ref t]) Q E s := by
  refine callType_codes (Q₁ := fun obj s₁ => s₁.TypeIs obj "reversed" ∧ Q obj s₁) rv_called (F.typeCall_reversed_1 _) F.entry_object_init (made_new ht hz fun tk => ⟨⟨_, Heap.get?_push_size _ rfl, rfl⟩, q tk⟩) fun obj s₁ h₁ => ?_
  exact ⟨h₁.1, F.args_object_init_2 obj _, object_init_meets rv_called.init.lookup rv_called.made (by decide) prog w A.in1 _ s₁ ⟨h₁.1, rfl, h₁.2⟩⟩
theorem next_item {it t : Addr} {i : Nat} {its : Array Value} {x : Value} {Q : Option Value → Shared → Prop} (hit : IsRevT s.heap it t (i : Int)) (ht : IsTup s.heap t its) (hx : its[i]? = some x) (hz : its.size ≤ sizeLine)
    (q : ∀ h' tk, IsRevT h' it t ((i : Int) - 1) → Heap.SameBut it s.heap h' → Q (some x) { s with heap := h', toks := tk }) : wpAny (model prog w) A (pyNext (.ref it)) Q E s := by
  obtain ⟨o, ho, hc, hd⟩ := id hit
  have hi : i < its.size := by
    obtain ⟨z, _⟩ := Array.getElem?_eq_some_iff.mp hx
    exact z
  have hsl : sizeLine = 16777216 := sizeLine_eq
  have hneg : ¬ ((i : Int) < 0) := by omega
  have hseq : seqIndex? (i : Int) its.size = some i := by simp [seqIndex?, hneg, hi]
  unfold pyNext
  refine wpAny_bind (wpAny_attempt (wpAny_callSpecial?_slot (name := Str.ofString "__next__") hit.ty rv_next (wpAny_call_entry rv_next hit.ty en_next ?_ (ar_next _))))
  unfold Builtin.«reversed.__next__»
  refine wpAny_bind (wpAny_of_eq (a := (Value.ref it, [])) rfl ?_)
  try dsimp only
  refine wpAny_bind (wpAny_field ho hd (x := .ref t) rfl ?_)
  refine wpAny_bind (wpAny_field ho hd (x := rawInt (i : Int)) rfl ?_)
  show wpAny _ _ (if (i : Int) < 0 then _ else _) _ _ s
  rw [if_neg (by omega)]
  refine wpAny_bind (wpAny_specialOf ht.typeIs slot_tuple_getitem.lookup ?_)
  rw [if_neg (by simp)]
  refine wpAny_bind (wpAny_mkInt ?_)
  refine wpAny_bind (wpAny_attempt (getItem_tuple (s := { s with toks := s.toks + 1 }) ht (by omega) (by omega) hseq hx ?_))
  show wpAny _ _ (field (Value.ref it) 1 >>= _) _ _ _
  refine wpAny_bind (wpAny_field (s := { s with toks := s.toks + 1 }) ho hd (x := rawInt (i : Int)) rfl ?_)
  show wpAny _ _ (setField (Value.ref it) 1 (rawInt ((i : Int) - 1)) >>= _) _ _ _
  refine wpAny_bind (wpAny_setField (s := { s with toks := s.toks + 1 }) ho hd (by simp) ?_)
  refine wpAny_pure ⟨x, rfl, wpAny_pure (q _ _ ?_ (Heap.SameBut.update ..))⟩
  exact ⟨_, Heap.get?_update_self _ ho (Obj.isFreed_of_fields (Obj.data_mapFields hd _)), (Obj.cls_mapFields ..).trans hc, by
    rw [Obj.data_mapFields hd]
    simp⟩
theorem next_end {it t : Addr} {Q : Option Value → Shared → Prop} (hh : A.handled = none) (hit : IsRevT s.heap it t (-1))
    (q : ∀ h' tk, Heap.ExtBut it s.heap h' → Q none { s with heap := h', toks := tk }) : wpAny (model prog w) A (pyNext (.ref it)) Q E s := by
  obtain ⟨o, ho, hc, hd⟩ := id hit
  unfold pyNext
  refine wpAny_bind (wpAny_attempt (wpAny_callSpecial?_slot (name := Str.ofString "__next__") hit.ty rv_next (wpAny_call_entry rv_next hit.ty en_next ?_ (ar_next _))))
  unfold Builtin.«reversed.__next__»
  refine wpAny_bind (wpAny_of_eq (a := (Value.ref it, [])) rfl ?_)
  try dsimp only
  refine wpAny_bind (wpAny_field ho hd (x := .ref t) rfl ?_)
  refine wpAny_bind (wpAny_field ho hd (x := rawInt (-1)) rfl ?_)
  show wpAny _ _ (if (-1 : Int) < 0 then _ else _) _ _ s
  rw [if_pos (by decide)]
  refine wpAny_bind (wpAny_rule ?_)
  refine wpAny_bind (wpAny_bind (wpAny_setField ho hd (by simp) ?_))
  have h1 := Heap.get?_update_self (Obj.mapFields (·.setIfInBounds 1 (rawInt (-1)))) ho (Obj.isFreed_of_fields (Obj.data_mapFields hd _))
  refine wpAny_setField h1 (Obj.data_mapFields hd _) (by simp) ?_
  refine wpAny_bind ?_
  show wpAny _ _ (newExc (Value.type "StopIteration") [] >>= _) _ _ _
  refine wpAny_bind ?_
  simp only [newTuple, newExc]
  refine wpAny_bind (wpAny_newObj_type (wpAny_bind (m := firstArgMember _ _) (wpAny_of_eq (a := Value.none) (by first | rfl | (simp only [firstArgMember]; rfl)) (wpAny_newObj_type ?_ (by size_fits)))) (by size_fits))
  simp only [raiseNew]
  refine wpAny_bind (wpAny_handled ?_)
  rw [show A.in1.handled = none from hh]
  refine wpAny_bind (wpAny_pure (wpAny_throw ?_))
  exact wpAny_bind (wpAny_isInstance (T := "StopIteration") (b := true) ⟨_, Heap.get?_push_size _ rfl, rfl⟩ isSubtype_stop (wpAny_pure (q _ _ ((((Heap.SameBut.update ..).trans (Heap.SameBut.update ..)).extBut.push _).push _))))
theorem iter_self {it t : Addr} {i : Int} {Q : Value → Shared → Prop} (hit : IsRevT s.heap it t i) (h : Q (.ref it) s) : wpAny (model prog w) A (pyIter (.ref it)) Q E s := by
  refine wpAny_pyIter_slot hit.ty rv_iter (wpAny_call_entry rv_iter hit.ty en_iter ?_ (ar_iter _))
  show wpAny _ _ (ret (.ref it)) _ _ s
  exact wpAny_pure ⟨_, rfl, "reversed", _, hit.ty, rv_next.lookup, h⟩
end
end RV

set_option Elab.async false
set_option linter.all false
set_option maxRecDepth 100000
set_option maxHeartbeats 4000000
namespace RV
open PySem PySem.Spec PyProof.Rows
section
variable {prog : Program} {w : World} {A : Around} {E : Value → Shared → Prop} {s : Shared}
theorem walks_rev (hh : A.handled = none) (I t : Addr) (hne : t ≠ I) (its : Array Value) (hz : its.size ≤ sizeLine) :
    Walks prog w A I [I, t] [I] its.size (fun i v => its[its.size - 1 - i]? = some v) (fun i h => i ≤ its.size ∧ IsRevT h I t ((its.size : Int) - 1 - (i : Int)) ∧ IsTup h t its) where
  sub := fun b hb => by
    have e : b = I := by simpa using hb
    simp [e]
  frame := fun _ _ _ st k => ⟨st.1, st.2.1.move fun o e => k I (by simp) o e, IsTup.move st.2.2 fun o e => k t (by simp) o e⟩
  item := fun i s Q E hi st q => by
    have e1 : (its.size : Int) - 1 - (i : Int) = ((its.size - 1 - i : Nat) : Int) := by omega
    have hit := st.2.1
    rw [e1] at hit
    have hx : its[its.size - 1 - i]? = some (its[its.size - 1 - i]'(by omega)) := Array.getElem?_eq_getElem (by omega)
    refine next_item hit st.2.2 hx hz fun h' tk hit' same => ?_
    have e2 : ((its.size - 1 - i : Nat) : Int) - 1 = (its.size : Int) - 1 - ((i + 1 : Nat) : Int) := by omega
    rw [e2] at hit'
    exact q _ h' tk hx ⟨hi, hit', IsTup.move st.2.2 fun o eo => (same.2 t hne).trans eo⟩ fun b o hb eo => same.extBut b o (fun z => hb (by simp [z])) eo
  done := fun s Q E st q => by
    have e1 : (its.size : Int) - 1 - (its.size : Int) = -1 := by omega
    have hit := st.2.1
    rw [e1] at hit
    exact next_end hh hit fun h' tk he => q h' tk fun b o hb eo => he b o (fun z => hb (by simp [z])) eo
  self := fun _ _ _ _ st q => iter_self st.2.1 q
theorem hint_rev {I t : Addr} {its : Array Value} {Q : Bool → Shared → Prop} (hI : IsRevT s.heap I t ((its.size : Int) - 1)) (ht : IsTup s.heap t its) (hz : its.size ≤ sizeLine) (q : ∀ b tk, Q b { s with toks := tk }) : wpAny (model prog w) A (Builtin.List.listLengthHint (.ref I)) Q E s := by
  unfold Builtin.List.listLengthHint
  refine wpAny_bind (wpAny_specialOf hI.ty no_len ?_)
  try dsimp only
  refine wpAny_ite_split (fun h => absurd h (by decide)) (fun _ => ?_)
  refine wpAny_ite_split (fun h => absurd h (by decide)) (fun _ => ?_)
  refine wpAny_bind (wpAny_specialOf hI.ty rv_hint.lookup ?_)
  generalize hid : ("reversed.__length_hint__" : String) = id0
  wp_delta
  rw [show splitId id0 = some ("reversed", "__length_hint__") from by subst hid; decide +kernel]
  subst hid
  refine wpAny_bind (wpAny_isInstance (T := "reversed") (b := true) hI.ty rv_rv ?_)
  refine wpAny_ite_split (fun h => absurd h (by decide)) (fun _ => ?_)
  refine wpAny_ite_split (fun h => absurd h (by decide +kernel)) (fun _ => ?_)
  refine wpAny_bind (wpAny_rule ?_)
  refine wpAny_bind (wpAny_of_eq (rv_hint.bind _) ?_)
  have hsl : sizeLine = 16777216 := sizeLine_eq
  have hfit : (its.size : Int) < 2 ^ 63 := by omega
  obtain ⟨o, ho, hc, hd⟩ := id hI
  refine wpAny_bind (wpAny_attempt (wpAny_call_entry rv_hint hI.ty en_hint ?_ (ar_hint _)))
  unfold Builtin.«reversed.__length_hint__»
  refine wpAny_bind (wpAny_of_eq (a := Value.ref I) rfl ?_)
  refine wpAny_bind (wpAny_field ho hd (x := .ref t) rfl ?_)
  rw [if_neg (by exact Bool.false_ne_true)]
  refine wpAny_bind (len_tuple ht hfit ?_)
  refine wpAny_bind (wpAny_of_eq (a := some (its.size : Int)) rfl ?_)
  try dsimp only
  refine wpAny_bind (wpAny_field (s := { s with toks := s.toks + 1 + 1 }) ho hd (x := rawInt ((its.size : Int) - 1)) rfl ?_)
  show wpAny _ _ (if (its.size : Int) < (its.size : Int) - 1 + 1 then _ else _) _ _ _
  rw [if_neg (by omega)]
  refine wpAny_bind (wpAny_mkInt (wpAny_pure ⟨_, rfl, ?_⟩))
  refine wpAny_bind (wpAny_of_eq (a := some ((its.size : Int) - 1 + 1)) rfl ?_)
  try dsimp only
  refine wpAny_ite_split (fun h => absurd h ?_) (fun _ => ?_)
  · unfold Builtin.List.listFitsIndex
    simp
    omega
  refine wpAny_ite_split (fun h => absurd h (by omega)) (fun _ => ?_)
  refine wpAny_ite_split (fun h => absurd h ?_) (fun _ => ?_)
  · unfold Builtin.List.listTooLong
    simp
    omega
  exact wpAny_pure (q _ _)
end
end RV

set_option Elab.async false
set_option linter.all false
set_option maxRecDepth 100000
set_option maxHeartbeats 4000000
namespace RV
open PySem PySem.Spec PyProof.Rows
section
variable {prog : Program} {w : World} {A : Around} {E : Value → Shared → Prop} {s : Shared}
/-- how the object stands amid a walk -/
def StR (I t : Addr) (its : Array Value) (i : Nat) (h : Heap) : Prop := i ≤ its.size ∧ IsRevT h I t ((its.size : Int) - 1 - (i : Int)) ∧ IsTup h t its
def PR (its : Array Value) (i : Nat) (v : Value) : Prop := its[its.size - 1 - i]? = some v
theorem StR.move {I t : Addr} {its : Array Value} {i : Nat} {h h' : Heap} (x : StR I t its i h) (k : ∀ b o, b = I ∨ b = t → h.get? b = some o → h'.get? b = some o) : StR I t its i h' :=
  ⟨x.1, x.2.1.move fun o e => k I o (.inl rfl) e, IsTup.move x.2.2 fun o e => k t o (.inr rfl) e⟩
theorem extend_rev {R : Result → Shared → Prop} (hh : A.handled = none) {I t S : Addr} {its : Array Value} {res : Value} {c₀ : Nat} (hne : t ≠ I) (hSI : S ≠ I) (hSt : S ≠ t) (hz : its.size ≤ sizeLine) (st : StR I t its 0 s.heap)
    (hS : s.heap.get? S = some { cls := .type "list", data := .seq #[] c₀ })
    (q : ∀ h' tk acc c, (∀ b o, b ≠ S → b ≠ I → s.heap.get? b = some o → h'.get? b = some o) → h'.get? S = some { cls := .type "list", dict := none, data := .seq acc c, slots := #[] } → ItemsOf (PR its) acc its.size → R (.ok (.ret res)) { s with heap := h', toks := tk }) :
    wpAny (model prog w) A.in1 (Builtin.List.listExtendWith (.ref S) (.ref I) res)
      (fun fin s' => match fin with | .done f => R (.ok f) s' | .again c' => c'.quiet = true ∧ codeAny (model prog w) A c' R s') (fun e s' => R (.error e) s') s := by
  have W := (walks_rev (prog := prog) (w := w) (A := A.in1) hh I t hne its hz).toS
  have hSf : S ∉ [I, t] := by simp [hSI, hSt]
  have ty : s.TypeIs (.ref I) "reversed" := st.2.1.ty
  have rest : ∀ (h : Heap) (c tk : Nat), StR I t its 0 h → (∀ b o, b ≠ S → s.heap.get? b = some o → h.get? b = some o) → h.get? S = some { cls := .type "list", data := .seq #[] c } → codeAny (model prog w) A (.builtin "list.extend.loop" ⟨[.ref S, .ref I, res], []⟩) R { s with heap := h, toks := tk } := fun h c tk st' keep hS' => by
    refine codeAny_extend_loopS W hz S hSf res its.size 0 _ #[] c rfl (Nat.zero_le _) st' hS' (ItemsOf.nil _) fun s' acc c' hm hS2 hacc => ?_
    rw [Moved.eq_with hm]
    refine q s'.heap s'.toks acc c' (fun b o hb hbI e => hm.heap b o (fun z => ?_) (keep b o hb e)) hS2 hacc
    rcases List.mem_cons.mp z with z | z
    · exact hb z
    · exact hbI (List.mem_singleton.mp z)
  unfold Builtin.List.listExtendWith
  refine wpAny_bind (wpAny_typeOf ty ?_)
  have n1 : Builtin.List.listSameRef (.ref S) (.ref I) = false := by simp [Builtin.List.listSameRef, hSI]
  have n2 : (Value.type "reversed" == Value.type "list") = false := by decide
  have n3 : (Value.type "reversed" == Value.type "tuple") = false := by decide
  simp only [n1, n2, n3, Bool.or_false, Bool.false_eq_true, if_false]
  refine wpAny_bind (iter_self st.2.1 ?_)
  refine wpAny_bind (wpAny_holding (hint_rev (its := its) (by have := st.2.1; simpa using this) st.2.2 hz fun b tk => ?_))
  refine wpAny_ite_split (fun _ => ?_) (fun _ => wpAny_pure ⟨plainId_quiet PySem.F.plain_extend_loop _, rest _ c₀ _ st (fun b o _ e => e) hS⟩)
  refine wpAny_bind (wpAny_rule (wpAny_bind ?_))
  show wpAny _ _ (updateSeq S (·.push .none) >>= fun _ => updateSeq S (·.pop)) _ _ _
  refine wpAny_bind (wpAny_updateSeq (s := { s with toks := tk }) hS rfl ?_)
  have hS2 := Heap.get?_update_self (Obj.mapSeq (·.push Value.none)) hS rfl
  refine wpAny_updateSeq (hz := by seq_fits) hS2 rfl ?_
  have hS3 := Heap.get?_update_self (Obj.mapSeq (·.pop)) hS2 rfl
  have oth : ∀ b o, b ≠ S → s.heap.get? b = some o → ((s.heap.update S (Obj.mapSeq (·.push Value.none))).update S (Obj.mapSeq (·.pop))).get? b = some o := fun b o hb e =>
    (Heap.get?_update_other _ _ (Ne.symm hb)).trans ((Heap.get?_update_other _ _ (Ne.symm hb)).trans e)
  refine wpAny_pure ⟨plainId_quiet PySem.F.plain_extend_loop _, rest _ _ _ (st.move fun b o hb e => oth b o (fun z => ?_) e) oth hS3⟩
  rcases hb with y | y
  · exact hSI (z.symm.trans y)
  · exact hSt (z.symm.trans y)
theorem init_rev {R : Result → Shared → Prop} (hh : A.handled = none) {I t S : Addr} {its : Array Value} (hne : t ≠ I) (hSI : S ≠ I) (hSt : S ≠ t) (hz : its.size ≤ sizeLine) (st : StR I t its 0 s.heap)
    (hS : s.heap.get? S = some { cls := .type "list", data := .seq #[] })
    (q : ∀ h' tk acc c, (∀ b o, b ≠ S → b ≠ I → s.heap.get? b = some o → h'.get? b = some o) → h'.get? S = some { cls := .type "list", dict := none, data := .seq acc c, slots := #[] } → ItemsOf (PR its) acc its.size → R (.ok (.ret .none)) { s with heap := h', toks := tk }) :
    wpAny (model prog w) A.in1 (Builtin.«list.__init__» ⟨[.ref S, .ref I], []⟩)
      (fun fin s' => match fin with | .done f => R (.ok f) s' | .again c' => c'.quiet = true ∧ codeAny (model prog w) A c' R s') (fun e s' => R (.error e) s') s := by
  show wpAny _ A.in1 (Builtin.List.listItems (.ref S) >>= fun old => Builtin.List.listUpdate (.ref S) (fun _ => #[]) >>= fun _ => letGo old.toList.reverse >>= fun _ => Builtin.List.listExtendWith (.ref S) (.ref I) .none) _ _ s
  unfold Builtin.List.listItems
  refine wpAny_bind (wpAny_bind (wpAny_seqItems hS rfl (wpAny_pure ?_)))
  show wpAny _ A.in1 (updateSeq S (fun _ => #[]) >>= fun _ => letGo (#[] : Array Value).toList.reverse >>= fun _ => Builtin.List.listExtendWith (.ref S) (.ref I) .none) _ _ s
  refine wpAny_bind (wpAny_updateSeq hS rfl (wpAny_bind (wpAny_letGo ?_)))
  have oth : ∀ b o, b ≠ S → s.heap.get? b = some o → (s.heap.update S (Obj.mapSeq (fun _ => (#[] : Array Value)))).get? b = some o := fun b o hb e => (Heap.get?_update_other _ _ (Ne.symm hb)).trans e
  refine extend_rev hh hne hSI hSt hz (st.move fun b o hb e => oth b o (fun z => ?_) e) (Heap.get?_update_self (Obj.mapSeq (fun _ => (#[] : Array Value))) hS rfl) fun h' tk acc c keep hS' hacc => q h' tk acc c (fun b o hb hbI e => keep b o hb hbI (oth b o hb e)) hS' hacc
  rcases hb with y | y
  · exact hSI (z.symm.trans y)
  · exact hSt (z.symm.trans y)
/-- list(r) of such an object -/
theorem list_rev {I t : Addr} {its : Array Value} {Q : Value → Shared → Prop} (hh : A.handled = none) (hne : t ≠ I) (hz : its.size ≤ sizeLine) (st : StR I t its 0 s.heap)
    (q : ∀ h' tk acc c, (∀ b o, b ≠ I → s.heap.get? b = some o → h'.get? b = some o) → h'.get? s.heap.objs.size = some { cls := .type "list", dict := none, data := .seq acc c, slots := #[] } → ItemsOf (PR its) acc its.size → Q (.ref s.heap.objs.size) { s with heap := h', toks := tk }) :
    wpAny (model prog w) A (call (.type "list") [.ref I]) Q E s := by
  have hI : I < s.heap.objs.size := by
    obtain ⟨o, e, _⟩ := st.2.1
    exact Heap.lt_size e
  have ht : t < s.heap.objs.size := by
    obtain ⟨o, e, _⟩ := st.2.2
    exact Heap.lt_size e
  refine callType_codes (Q₁ := fun obj s₁ => obj = .ref s.heap.objs.size ∧ s₁ = { s with heap := s.heap.push { cls := .type "list", data := .seq #[] } }) F.called_list (F.typeCall_list_1 _) F.entry_list_init (code_list_new _ ⟨rfl, rfl⟩) fun obj s₁ e₁ => ?_
  obtain ⟨rfl, rfl⟩ := e₁
  have hS : (s.heap.push { cls := .type "list", data := .seq #[] }).get? s.heap.objs.size = some { cls := .type "list", data := .seq #[] } := Heap.get?_push_size _ rfl
  refine ⟨⟨_, hS, rfl⟩, F.args_list_init_2 _ _, init_rev (A := A.in1) hh hne (Nat.ne_of_gt hI) (Nat.ne_of_gt ht) hz (st.move fun b o _ e => Heap.get?_push_of_some _ e) hS fun h' tk acc c keep hS' hacc => ?_⟩
  exact ⟨rfl, q h' tk acc c (fun b o hb e => keep b o (Nat.ne_of_lt (Heap.lt_size e)) hb (Heap.get?_push_of_some _ e)) hS' hacc⟩
end
end RV

set_option Elab.async false
set_option linter.all false
set_option maxRecDepth 100000
set_option maxHeartbeats 4000000
namespace L2
open PySem PySem.Spec PyProof.Rows PySem.W RV
theorem vals_at : ∀ {xs : List V} {its : List Value} {i : Nat} {v : Value}, Vals xs its → its[i]? = some v → ∃ x, xs[i]? = some x ∧ RelV x v
  | _, _, _, _, .nil, e => by simp at e
  | _, _, 0, _, .cons r _, e => by simp at e; subst e; exact ⟨_, rfl, r⟩
  | _, _, i + 1, _, .cons _ t, e => by
    obtain ⟨x, h1, h2⟩ := vals_at (i := i) t (by simpa using e)
    exact ⟨x, by simpa using h1, h2⟩
theorem vals_by : ∀ {xs : List V} {us : List Value}, us.length = xs.length → (∀ (j : Nat) (u : Value), us[j]? = some u → ∃ x, xs[j]? = some x ∧ RelV x u) → Vals xs us
  | [], [], _, _ => .nil
  | [], _ :: _, h, _ => by simp at h
  | _ :: _, [], h, _ => by simp at h
  | x :: xs, u :: us, h, k => by
    obtain ⟨y, e, r⟩ := k 0 u rfl
    have e' : x = y := by simpa using e
    subst e'
    exact .cons r (vals_by (by simpa using h) fun j v hj => by simpa using k (j + 1) v (by simpa using hj))
theorem vals_rev {xs : List V} {its : Array Value} {acc : Array Value} (hv : Vals xs its.toList) (ha : ItemsOf (PR its) acc its.size) : Vals xs.reverse acc.toList := by
  have hl : xs.length = its.size := by rw [hv.length, Array.length_toList]
  refine vals_by (by rw [Array.length_toList, ha.1, List.length_reverse, hl]) fun j u e => ?_
  have hj : j < its.size := by
    rw [← ha.1, ← Array.length_toList]
    exact (List.getElem?_eq_some_iff.mp e).1
  have hp : its[its.size - 1 - j]? = some u := ha.2 j u (by rw [← Array.getElem?_toList]; exact e)
  obtain ⟨x, h1, h2⟩ := vals_at (i := its.size - 1 - j) hv (by rw [Array.getElem?_toList]; exact hp)
  refine ⟨x, ?_, h2⟩
  rw [List.getElem?_reverse (by omega), hl]
  exact h1
section
variable {X : Cx} {e : Expr} {te : TE} {pos pos2 p p2 : Pos}
def tLRev (K : PySem.W.Frag) (te : TE) : TE := fun σ H Q => te σ H fun x H1 => ∃ a xs, x = .ref a ∧ SqT K H1 a xs ∧ ∀ l, H1 l = none → Q (.ref l) (upd H1 l (.lst xs.reverse))
theorem ev_rev (he : PE X e te) (gR : Gl X "reversed") (mR : X.mg "reversed" = none) (hs : starEach [e] X.env = [(false, eval e X.env)] := by rfl)
    {pins : List (Addr × Obj)} {s : Shared} {σ : St} {H : Hp} {R : VK} {Q : Value → Shared → Prop} (I : Inv X pins σ H s) (h : te σ H R)
    (k : ∀ x H1 s1 a xs its tk, Inv X pins σ H1 s1 → R x H1 → x = .ref a → Vals xs its → IsTup s1.heap a its.toArray → its.toArray.size ≤ sizeLine → SqT X.K H1 a xs → Q (.ref s1.heap.objs.size) { s1 with heap := s1.heap.push (revT a ((its.toArray.size : Int) - 1)), toks := tk })
    (kr : ∀ x H1, R x H1 → ∃ a xs, x = .ref a ∧ SqT X.K H1 a xs) :
    wpAny (model X.prog X.w) X.A (eval (.Call (.Name "reversed" p2) [e] [] pos2) X.env) Q X.xe s := by
  refine wpAny_Call_Name_kw (ld_blt I gR mR boot_reversed ?_ (by decide) (by decide))
  refine PyProof.Rows.callWith_type1 ?_ hs (by rfl)
  rw [hs]
  refine Calls.spliced_cons (thn (he pins s σ H _ I h) fun u s1 ⟨x, H1, I1, r1, q1⟩ => ?_)
  obtain ⟨a, xs, rfl, ht⟩ := kr x H1 q1
  cases r1
  obtain ⟨its, hv, htup, hz⟩ := I1.tuple ht
  have hz' : its.toArray.size ≤ sizeLine := by have := hv.length; simp; omega
  refine Calls.spliced_nil ?_
  exact call_rev htup hz' fun tk => k _ H1 s1 a xs its tk I1 q1 rfl hv htup hz' ht
/-- list(reversed(e)), e a tuple -/
theorem pe_lrev (hc : X.calm = true) (he : PE X e te) (gL : Gl X "list") (mL : X.mg "list" = none) (gR : Gl X "reversed") (mR : X.mg "reversed" = none) (hs : starEach [e] X.env = [(false, eval e X.env)] := by rfl) (hs2 : starEach [.Call (.Name "reversed" p2) [e] [] pos2] X.env = [(false, eval (.Call (.Name "reversed" p2) [e] [] pos2) X.env)] := by rfl) :
    PE X (.Call (.Name "list" p) [.Call (.Name "reversed" p2) [e] [] pos2] [] pos) (tLRev X.K te) := by
  intro pins s σ H Q I h
  refine wpAny_Call_Name_kw (ld_blt I gL mL boot_list ?_ (by decide) (by decide))
  refine PyProof.Rows.callWith_type1 ?_ hs2 (by rfl)
  rw [hs2]
  refine Calls.spliced_cons (ev_rev he gR mR hs I h (fun x H1 s1 a xs its tk I1 q1 ex hv htup hz ht => ?_) fun x H1 q => by obtain ⟨a, xs, e1, e2, _⟩ := q; exact ⟨a, xs, e1, e2⟩)
  obtain ⟨a', ys, e1, e2, q⟩ := q1
  have ea : a = a' := V.ref.inj (ex.symm.trans e1)
  subst ea
  have exy := I1.tuple_inj ht e2
  subst exy
  refine Calls.spliced_nil ?_
  have hne : a ≠ s1.heap.objs.size := Nat.ne_of_lt htup.lt
  have st : StR s1.heap.objs.size a its.toArray 0 (s1.heap.push (revT a ((its.toArray.size : Int) - 1))) := ⟨Nat.zero_le _, ⟨_, Heap.get?_push_size _ rfl, rfl, by simp [revT]⟩, htup.push _⟩
  refine list_rev (s := { s1 with heap := s1.heap.push (revT a ((its.toArray.size : Int) - 1)), toks := tk }) (I1.ok.hd hc) hne hz st fun h' tk' acc c keep hS hacc => ?_
  have hk : ∀ b u, s1.heap.get? b = some u → h'.get? b = some u := fun b u e => keep b u (Nat.ne_of_lt (Heap.lt_size e)) (Heap.get?_push_of_some _ e)
  have hv' : Vals xs its.toArray.toList := by simpa using hv
  have hr := vals_rev hv' hacc
  have hp : s1.heap.objs.size ≤ (s1.heap.push (revT a ((its.toArray.size : Int) - 1))).objs.size := by rw [Heap.size_push]; omega
  refine ⟨.ref _, _, I1.laid (t' := tk') hk hp (show ObjOk X.prog X.w _ h' _ (.lst xs.reverse) from ⟨?_, acc.toList, c, hr, by simpa using hS⟩), rfl, q _ (I1.hok.fresh hp)⟩
  rw [hr.length, Array.length_toList, hacc.1]
  exact hz
end
end L2

set_option Elab.async false
set_option linter.all false
set_option maxRecDepth 100000
set_option maxHeartbeats 4000000
namespace L2
open PySem PySem.Spec PyProof.Rows
section
variable {X : Cx}
/-- l != m of two lists with the same flat items -/
theorem op_neL_same (hu : X.A.units < cLine) : OpR X (compareOp .NotEq) (fun x y H Q => ∃ a b xs, x = .ref a ∧ y = .ref b ∧ SqL X.K H a xs ∧ SqL X.K H b xs ∧ xs.all flatV = true ∧ Q (.bl false) H) := by
  intro pins s σ H x y v u Q I rx ry h
  obtain ⟨a, b, xs, rfl, rfl, ha, hb, hf, q⟩ := h
  cases rx
  cases ry
  obtain ⟨its, r1, p1, _⟩ := I.list ha
  obtain ⟨its2, r2, p2, _⟩ := I.list hb
  have l1 := r1.length
  have l2 := r2.length
  refine SeqAt.RcNeAt.lists (e := fun _ => true) p1.isList p2.isList (by simp; omega) hu (same_items r1 r2 hf) X.prog X.w _ _ ?_
  rw [show (!((List.range its.toArray.size).all (fun _ => true))) = false by simp]
  exact ⟨.bl false, H, I, rfl, q⟩
end
end L2

set_option Elab.async false
set_option linter.all false
set_option maxRecDepth 100000
set_option maxHeartbeats 8000000
namespace K15
open PySem L2 PyProof.Rows
def top (i : Nat) : Stmt := PySem.Challenge.pw_bundlehouse_k15_begun_order.main.body.getD i (.Pass ⟨0, 0, 0, 0⟩)
-- scopes
abbrev s_brings : Stmt := top 1
theorem sc_brings : FnScope ["parts", "part"] ["parts", "part"] (defScope s_brings) := ⟨rfl, rfl, rfl, by decide +kernel, rfl, by decide +kernel, by decide +kernel⟩
abbrev s_named_parts : Stmt := top 2
theorem sc_named_parts : FnScope ["parts", "part", "kind", "found", "row"] ["parts", "part", "kind"] (defScope s_named_parts) := ⟨rfl, rfl, rfl, by decide +kernel, rfl, by decide +kernel, by decide +kernel⟩
abbrev s_order : Stmt := top 3
theorem sc_order : FnScope ["parts", "root", "begun", "waiting", "part"] ["parts", "root"] (defScope s_order) := ⟨rfl, rfl, rfl, by decide +kernel, rfl, by decide +kernel, by decide +kernel⟩
abbrev s_law_cell_at : Stmt := top 5
theorem sc_law_cell_at : FnScope ["_law_script", "_law_k"] ["_law_script", "_law_k"] (defScope s_law_cell_at) := ⟨rfl, rfl, rfl, by decide +kernel, rfl, by decide +kernel, by decide +kernel⟩
abbrev s_law_stream : Stmt := top 6
theorem sc_law_stream : FnScope ["_law_cell", "_law_k", "_law_found", "_law_number", "_law_by"] ["_law_cell", "_law_k"] (defScope s_law_stream) := ⟨rfl, rfl, rfl, by decide +kernel, rfl, by decide +kernel, by decide +kernel⟩
abbrev s_law_name : Stmt := top 7
theorem sc_law_name : FnScope ["_law_base", "_law_k", "_law_letters", "_law_size", "_law_name_here", "_law_j", "_law_step"] ["_law_base", "_law_k"] (defScope s_law_name) := ⟨rfl, rfl, rfl, by decide +kernel, rfl, by decide +kernel, by decide +kernel⟩
abbrev s_law_pool : Stmt := top 8
theorem sc_law_pool : FnScope ["_law_script", "_law_k"] ["_law_script", "_law_k"] (defScope s_law_pool) := ⟨rfl, rfl, rfl, by decide +kernel, rfl, by decide +kernel, by decide +kernel⟩
abbrev s_law_begun : Stmt := top 9
theorem sc_law_begun : FnScope ["_law_script", "_law_first", "_law_many", "_law_house", "_law_k"] ["_law_script"] (defScope s_law_begun) := ⟨rfl, rfl, rfl, by decide +kernel, rfl, by decide +kernel, by decide +kernel⟩
abbrev s_law_fresh : Stmt := top 10
theorem sc_law_fresh : FnScope ["_law_part", "_law_pool_here", "_law_k"] ["_law_part", "_law_pool_here", "_law_k"] (defScope s_law_fresh) := ⟨rfl, rfl, rfl, by decide +kernel, rfl, by decide +kernel, by decide +kernel⟩
abbrev s_law_pairs : Stmt := top 11
theorem sc_law_pairs : FnScope ["_law_house", "_law_pools_here", "_law_here", "_law_other", "_law_xs", "_law_part", "_law_given", "_law_pairs_here", "_law_t", "_law_own"] ["_law_house", "_law_pools_here", "_law_here", "_law_other", "_law_xs"] (defScope s_law_pairs) := ⟨rfl, rfl, rfl, by decide +kernel, rfl, by decide +kernel, by decide +kernel⟩
abbrev s_law_added : Stmt := top 12
theorem sc_law_added : FnScope ["_law_house", "_law_pools_here", "_law_xs", "_law_here", "_law_part", "_law_at", "_law_kind", "_law_other", "_law_own", "_law_given"] ["_law_house", "_law_pools_here", "_law_xs"] (defScope s_law_added) := ⟨rfl, rfl, rfl, by decide +kernel, rfl, by decide +kernel, by decide +kernel⟩
abbrev s_law_sum : Stmt := top 13
theorem sc_law_sum : FnScope ["_law_owns", "_law_xs", "_law_terms", "_law_t", "_law_number", "_law_thing"] ["_law_owns", "_law_xs"] (defScope s_law_sum) := ⟨rfl, rfl, rfl, by decide +kernel, rfl, by decide +kernel, by decide +kernel⟩
abbrev s_law_row : Stmt := top 14
theorem sc_law_row : FnScope ["_law_row_here", "_law_part", "_law_names", "_law_kind", "_law_one", "_law_xs", "_law_when", "_law_terms"] ["_law_row_here", "_law_part", "_law_names"] (defScope s_law_row) := ⟨rfl, rfl, rfl, by decide +kernel, rfl, by decide +kernel, by decide +kernel⟩
abbrev s_law_finished : Stmt := top 15
theorem sc_law_finished : FnScope ["_law_house", "_law_pool_here", "_law_names", "_law_parts_here", "_law_name_here", "_law_part"] ["_law_house", "_law_pool_here"] (defScope s_law_finished) := ⟨rfl, rfl, rfl, by decide +kernel, rfl, by decide +kernel, by decide +kernel⟩
abbrev s_law_pools : Stmt := top 16
theorem sc_law_pools : FnScope ["_law_script", "_law_first", "_law_own", "_law_other"] ["_law_script"] (defScope s_law_pools) := ⟨rfl, rfl, rfl, by decide +kernel, rfl, by decide +kernel, by decide +kernel⟩
abbrev s_law_parts : Stmt := top 17
theorem sc_law_parts : FnScope ["_law_script", "_law_house", "_law_pools_here", "_law_k"] ["_law_script"] (defScope s_law_parts) := ⟨rfl, rfl, rfl, by decide +kernel, rfl, by decide +kernel, by decide +kernel⟩
abbrev s_law_begun_by : Stmt := top 18
theorem sc_law_begun_by : FnScope ["_law_rows_by", "_law_root", "_law_begun_here", "_law_amid", "_law_rows", "_law_at"] ["_law_rows_by", "_law_root"] (defScope s_law_begun_by) := ⟨rfl, rfl, rfl, by decide +kernel, rfl, by decide +kernel, by decide +kernel⟩
abbrev s_law : Stmt := top 19
theorem sc_law : FnScope ["_law_script", "_law_parts_here", "_law_rows_by", "_law_name_here", "_law_rows", "_law_found", "_law_one"] ["_law_script"] (defScope s_law) := ⟨rfl, rfl, rfl, by decide +kernel, rfl, by decide +kernel, by decide +kernel⟩
structure Txt (K : PySem.W.Frag) (mg : Str → Option Value) : Prop where
  n_len : mg "len" = none
  n_range : mg "range" = none
  n_str : mg "str" = none
  n_tuple : mg "tuple" = none
  n_dict : mg "dict" = none
  n_list : mg "list" = none
  n_isinstance : mg "isinstance" = none
  n_min : mg "min" = none
  n_max : mg "max" = none
  n_zip : mg "zip" = none
  n_reversed : mg "reversed" = none
  d_brings : HasDef K mg "brings" s_brings
  d_named_parts : HasDef K mg "named_parts" s_named_parts
  d_order : HasDef K mg "order" s_order
  d_law_cell_at : HasDef K mg "_law_cell_at" s_law_cell_at
  d_law_stream : HasDef K mg "_law_stream" s_law_stream
  d_law_name : HasDef K mg "_law_name" s_law_name
  d_law_pool : HasDef K mg "_law_pool" s_law_pool
  d_law_begun : HasDef K mg "_law_begun" s_law_begun
  d_law_fresh : HasDef K mg "_law_fresh" s_law_fresh
  d_law_pairs : HasDef K mg "_law_pairs" s_law_pairs
  d_law_added : HasDef K mg "_law_added" s_law_added
  d_law_sum : HasDef K mg "_law_sum" s_law_sum
  d_law_row : HasDef K mg "_law_row" s_law_row
  d_law_finished : HasDef K mg "_law_finished" s_law_finished
  d_law_pools : HasDef K mg "_law_pools" s_law_pools
  d_law_parts : HasDef K mg "_law_parts" s_law_parts
  d_law_begun_by : HasDef K mg "_law_begun_by" s_law_begun_by
def spNamedParts : Sp := fun vs H Q _ => ∃ (a : Addr) (ps : List Pt) (n k : Str) (rs : List Rw), vs = [.ref a, .str n, .str k] ∧ (k = "bring" ∨ k = "ask") ∧ PartsF H a ps ∧ (ps.map (·.1)).Nodup ∧ (n, rs) ∈ ps ∧ ps.length ≤ 1000 ∧ rs.length ≤ 900 ∧
  ∀ (p : Addr) (H' : Hp), Same H H' → H' p = some (.tup ((namedOf k rs).map V.str)) → Q (.ref p) H'
def spNames (k : Str) : Sp := fun vs H Q _ => ∃ (a : Addr) (ps : List Pt) (n : Str) (rs : List Rw), vs = [.ref a, .str n] ∧ PartsF H a ps ∧ (ps.map (·.1)).Nodup ∧ (n, rs) ∈ ps ∧ ps.length ≤ 1000 ∧ rs.length ≤ 900 ∧
  ∀ (p : Addr) (H' : Hp), Same H H' → H' p = some (.tup ((namedOf k rs).map V.str)) → Q (.ref p) H'
theorem parts_pairs {K : PySem.W.Frag} {H : Hp} : ∀ {vs : List V} {ps : List Pt}, Paired (PartAt H) vs ps → ∃ qs : List (Str × V), Paired (fun v (p : Str × V) => ∃ t, v = .ref t ∧ SqT K H t [.str p.1, p.2]) vs qs ∧ qs.map (·.1) = ps.map (·.1) ∧ ∀ n rs, (n, rs) ∈ ps → ∃ u ws, (n, V.ref u) ∈ qs ∧ H u = some (.tup ws) ∧ RowsAt H ws rs
  | _, _, .nil => ⟨[], .nil, rfl, fun n rs h => by simp at h⟩
  | _, _, .cons (b := p) ⟨t, u, ws, e, h1, h2, h3⟩ hr => by
    obtain ⟨qs, g1, g2, g3⟩ := parts_pairs (K := K) hr
    refine ⟨(p.1, .ref u) :: qs, .cons ⟨t, e, SqT.of h1⟩ g1, by rw [List.map_cons, List.map_cons, g2], fun n rs h => ?_⟩
    rcases List.mem_cons.mp h with z | z
    · rw [← z] at h1 h3 ⊢
      exact ⟨u, ws, List.mem_cons_self, h2, h3⟩
    · obtain ⟨u', ws', k1, k2⟩ := g3 n rs z
      exact ⟨u', ws', List.mem_cons_of_mem _ k1, k2⟩
theorem Tups.dK {H : Hp} {l : Addr} {kvs kvs' : List (Key × V)} (h : H l = some (.dK kvs)) : Tups H (upd H l (.dK kvs')) := fun b zs q => by
  rw [upd_ne (ne_of q h (by intro z; cases z))]
  exact q
section
variable {P : Program} {w : World} {K : PySem.W.Frag} {mg : Str → Option Value} {base : Heap}
theorem ok_named_parts (T : Txt K mg) : L2.Cl P w K mg base 1 "named_parts" ["parts", "part", "kind"] spNamedParts := by
  refine Cl.of T.d_named_parts sc_named_parts (fun vs H Q E h => ?_) (fun _ _ _ _ _ _ us hl => match us, hl with | [_, _, _], _ => rfl) (fun f cdv A outer s H vs Q E hr h => ?_)
  · obtain ⟨a, ps, n, k, rs, rfl, _⟩ := h
    rfl
  · obtain ⟨a, ps, n, k, rs, rfl, hk, ⟨o, vs, ha, ho, hps⟩, hnd, hmem, hl1, hl2, q⟩ := h
    have hu := hu_of hr
    refine ⟨_, (pss_cons (ps_set (i := 3) sc_named_parts.nd rfl (Or.inl rfl) pe_dnewK)
      (pss_cons (ps_for PassesOwn.never rfl (pi_tup (pe_dget hu (pe_callTy (call_dictT rfl) (by rfl) T.n_dict boot_dict (pa_cons (pv 0) pa_nil)) (pv 1) (fun _ _ => rfl))) (pg_name (i := 4) sc_named_parts.nd rfl (Or.inl rfl))
        (pss_one (ps_if (pt_cmpR op_eq (pe_ix ix_tup (pv 4) pe_int (fun _ _ => rfl)) (pv 2) (nomark _))
          (pss_one (ps_dput hu (pv 3) (pe_ix ix_tup (pv 4) pe_int (fun _ _ => rfl)) pe_bl rfl)) pss_nil)))
      (pss_one (ps_ret (pe_callTy (call_tupleD rfl) (by rfl) T.n_tuple boot_tuple (pa_cons (pv 3) pa_nil)))))), ?_⟩
    intro d gd
    have s1 : Same H (upd H d (.dK [])) := (Same.refl H).new gd
    obtain ⟨qs, g1, g2, g3⟩ := parts_pairs (K := K) (Paired.mapP hps fun _ _ z => z.mono s1.tups)
    obtain ⟨u, ws, k1, k2, k3⟩ := g3 n rs hmem
    have hql : qs.length = ps.length := by
      have := congrArg List.length g2
      simpa using this
    refine ⟨_, rfl, a, o, vs, qs, rfl, s1 _ _ ha, ho, g1, (by omega), fun e ge => ?_⟩
    have s2 := s1.new (o := .dK (foldP qs [])) ge
    refine ⟨_, rfl, e, .ref u, rfl, ?_, ?_⟩
    · have hg := DGet.k (k := Sum.inr n) (upd_same (H := upd H d (.dK [])) (a := e) (o := .dK (foldP qs [])))
      rw [foldP_get qs [] n (.ref u) (by rw [g2]; exact hnd) (.inl k1)] at hg
      exact hg
    · have s2 : Same H (upd (upd H d (.dK [])) e (.dK (foldP qs []))) := s1.new ge
      have hde : d ≠ e := ne_of_none (upd_same (H := H) (a := d) (o := .dK [])) ge
      have hwl : ws.length = rs.length := Paired.length k3
      refine ⟨u, rfl, ⟨_, SqT.of (upd_keep k2 ge)⟩, for_tup (K := K) (a := u) (xs := ws) (fun i σ H2 => ∃ v4 : Option V, σ = [some (.ref a), some (.str n), some (.str k), some (.ref d), v4] ∧ Same H H2 ∧ H2 d = some (.dK (setD (namedOf k (rs.take i)))) ∧ H2 u = some (.tup ws) ∧ RowsAt H2 ws rs)
        ⟨none, rfl, s2, ?_, upd_keep k2 ge, k3.mono (Tups.new ge)⟩ (fun i σ H2 _ ⟨_, _, _, _, e2, _⟩ => SqT.of e2) ?_ ?_⟩
      · rw [upd_ne hde, upd_same]; rfl
      · rintro i y σ H2 hx ⟨v4, rfl, s3, hd3, hu3, hr3⟩
        have hi : i < ws.length := (List.getElem?_eq_some_iff.mp hx).1
        obtain ⟨rw, hrw, r, er, hra⟩ := Paired.get? hr3 hx
        subst er
        have hlt : (namedOf k (rs.take i)).length ≤ 900 := by
          have h1 := namedOf_len k (rs.take i) []
          have h2 : (rs.take i).length ≤ rs.length := List.length_take_le' ..
          unfold namedOf
          simp only [List.length_nil] at h1
          omega
        have htk : rs.take (i + 1) = rs.take i ++ [rw] := take_succ_get hrw
        rcases hra.named hk with ⟨e1, p, rest, e2, h2⟩ | ⟨e1, e2⟩
        · have z0 : atI (V.str k :: V.str p :: rest) 0 = some (.str k) := atI_nat (j := 0) rfl
          have z1 : atI (V.str k :: V.str p :: rest) 1 = some (.str p) := atI_nat (j := 1) rfl
          refine ⟨_, rfl, r, _, _, _, rfl, rfl, SqT.of h2, z0, _, rfl, rfl, _, rfl, iteSE ?_⟩
          refine ⟨_, rfl, _, rfl, r, _, _, _, rfl, rfl, SqT.of h2, z1, d, _, rfl, DPut.k (k := Sum.inr p) hd3 (small1000 (by rw [setD_len]; omega)), ?_⟩
          refine ⟨_, rfl, s3.put gd, ?_, ?_, hr3.mono (Tups.dK hd3)⟩
          · rw [upd_same, setD_put, htk, namedOf_snoc]
            unfold stepN
            rw [e2]
          · exact Tups.dK hd3 _ _ hu3
        · obtain ⟨x, rest, h2⟩ := hra.kind
          have z0 : atI (V.str (kindS rw) :: x :: rest) 0 = some (.str (kindS rw)) := atI_nat (j := 0) rfl
          refine ⟨_, rfl, r, _, _, _, rfl, rfl, SqT.of h2, z0, _, rfl, rfl, _, rfl, iteSN e1 ?_⟩
          refine ⟨_, rfl, s3, ?_, hu3, hr3⟩
          rw [htk, namedOf_snoc]
          unfold stepN
          rw [e2]
          exact hd3
      · rintro σ H2 ⟨v4, rfl, s3, hd3, hu3, hr3⟩
        rw [hwl, List.take_length] at hd3
        refine ⟨_, rfl, d, _, rfl, .inl hd3, fun t gt => ?_⟩
        refine q t _ (s3.new gt) ?_
        rw [upd_same, setD_keys]
theorem ok_brings (T : Txt K mg) : L2.Cl P w K mg base 2 "brings" ["parts", "part"] (spNames "bring") := by
  have C_named_parts := ok_named_parts (P := P) (w := w) (base := base) T
  refine Cl.of T.d_brings sc_brings (fun vs H Q E h => ?_) (fun _ _ _ _ _ _ us hl => match us, hl with | [_, _], _ => rfl) (fun f cdv A outer s H vs Q E hr h => ?_)
  · obtain ⟨a, ps, n, rs, rfl, _⟩ := h
    rfl
  · obtain ⟨a, ps, n, rs, rfl, h1, h2, h3, h4, h5, q⟩ := h
    refine ⟨_, (pss_one (ps_ret (pe_fn C_named_parts hr (by rfl) (pa_cons (pv 0) (pa_cons (pv 1) (pa_cons pe_str pa_nil)))))), ?_⟩
    exact ⟨_, rfl, _, rfl, a, ps, n, "bring", rs, rfl, .inl rfl, h1, h2, h3, h4, h5, q⟩
theorem signs_len : ("abcdefghijklmnopqrstuvwxyz0123456789" : Str).cps.toList.length = 36 := by decide +kernel
theorem lets_eq : (lets : Str) = "abcdefghijklmnopqrstuvwxyz" := rfl
theorem lets_size : ("abcdefghijklmnopqrstuvwxyz" : Str).length ≤ sizeLine := by decide +kernel
theorem letsg_size : (("abcdefghijklmnopqrstuvwxyz" : Str) ++ ("0123456789" : Str)).length ≤ sizeLine := by decide +kernel
theorem letsg_eq : (("abcdefghijklmnopqrstuvwxyz" : Str) ++ ("0123456789" : Str)) = "abcdefghijklmnopqrstuvwxyz0123456789" := by decide +kernel
def spName : Sp := fun vs H Q _ => ∃ b k : Int, vs = [.int b, .int k] ∧ 0 ≤ b ∧ b < 2147483647 ∧ 0 ≤ k ∧ k < 1000 ∧ ∀ H' : Hp, Same H H' → Q (.str (nameM b k)) H'
theorem ok_name (T : Txt K mg) : L2.Cl P w K mg base 1 "_law_name" ["_law_base", "_law_k"] spName := by
  refine Cl.of T.d_law_name sc_law_name (fun vs H Q E h => ?_) (fun _ _ _ _ _ _ us hl => match us, hl with | [_, _], _ => rfl) (fun f cdv A outer s H vs Q E hr h => ?_)
  · obtain ⟨b, k, rfl, _⟩ := h
    rfl
  · obtain ⟨b, k, rfl, hb, hb2, hk, hk2, q⟩ := h
    refine ⟨_, (pss_cons (ps_set (i := 2) sc_law_name.nd rfl (Or.inl rfl) pe_str)
      (pss_cons (ps_set (i := 1) sc_law_name.nd rfl (Or.inl rfl) (pe_op op_mod (pe_op op_add (pe_op op_mul (pv 1) (pe_ix ix_list (pe_lst (pa_cons pe_int (pa_cons pe_int (pa_cons pe_int (pa_cons pe_int (pa_cons pe_int (pa_cons pe_int pa_nil))))))) (pe_op op_mod (pv 0) pe_int) (fun _ _ => rfl))) (pe_op op_fdiv (pv 0) pe_int)) pe_int))
      (pss_cons (ps_set (i := 0) sc_law_name.nd rfl (Or.inl rfl) (pe_op op_fdiv (pv 0) pe_int))
      (pss_cons (ps_if (pt_cmpR op_eq (pe_op op_mod (pv 0) pe_int) pe_int (nomark _))
        (pss_one (ps_ret (pe_op op_rep1 (pe_ix ix_str (pv 2) (pe_op op_mod (pe_op op_add (pe_op op_fdiv (pv 0) pe_int) (pe_op op_fdiv (pv 1) pe_int)) pe_int) (fun _ _ => rfl)) (pe_op op_add pe_int (pe_op op_mod (pv 1) pe_int))))) pss_nil)
      (pss_cons (ps_if (pt_cmpR op_eq (pe_op op_mod (pv 0) pe_int) pe_int (nomark _))
        (pss_one (ps_ret (pe_op op_add_str (pe_op op_rep1 (pe_ix ix_str (pv 2) (pe_op op_mod (pe_op op_fdiv (pv 0) pe_int) pe_int) (fun _ _ => rfl)) (pe_op op_add pe_int (pe_op op_mod (pe_op op_fdiv (pv 0) pe_int) pe_int))) (pe_callTy call_str_int (by rfl) T.n_str boot_str (pa_cons (pv 1) pa_nil))))) pss_nil)
      (pss_cons (ps_set (i := 3) sc_law_name.nd rfl (Or.inl rfl) (pe_op op_add pe_int (pe_op op_mod (pe_op op_fdiv (pv 0) pe_int) pe_int)))
      (pss_cons (ps_set (i := 4) sc_law_name.nd rfl (Or.inl rfl) pe_str)
      (pss_cons (ps_for PassesOwn.never rfl (pi_range1 (by rfl) T.n_range (pa_cons (pv 3) pa_nil)) (pg_name (i := 5) sc_law_name.nd rfl (Or.inl rfl))
        (pss_cons (ps_set (i := 6) sc_law_name.nd rfl (Or.inl rfl) (pe_op op_fdiv (pv 0) (pe_op op_add pe_int (pe_op op_mul (pe_op op_mul pe_int (pv 5)) (pv 5)))))
        (pss_one (ps_if (pt_cmpR op_eq (pv 5) (pe_op op_mod (pe_op op_fdiv (pv 0) pe_int) (pv 3)) (nomark _))
          (pss_one (ps_set (i := 4) sc_law_name.nd rfl (Or.inl rfl) (pe_op op_add_str (pv 4) (pe_ix ix_str (pv 2) (pe_op op_mod (pe_op op_add (pv 6) (pv 1)) pe_int) (fun _ _ => rfl))))) (pss_one (ps_if (pt_cmpR op_eq (pv 5) pe_int (nomark _))
            (pss_one (ps_set (i := 4) sc_law_name.nd rfl (Or.inl rfl) (pe_op op_add_str (pv 4) (pe_ix ix_str (pv 2) (pe_op op_mod (pv 6) pe_int) (fun _ _ => rfl))))) (pss_one (ps_set (i := 4) sc_law_name.nd rfl (Or.inl rfl) (pe_op op_add_str (pv 4) (pe_ix ix_str (pe_op op_add_str (pv 2) pe_str) (pe_op op_mod (pv 6) pe_int) (fun _ _ => rfl)))))))))))
      (pss_one (ps_ret (pv 4))))))))))), ?_⟩
    have h6 : 0 ≤ b % 6 := by omega
    have h7 : b % 6 < 6 := by omega
    refine ⟨_, rfl, (by show 6 ≤ sizeLine; decide), fun l gl => ?_⟩
    have s1 : Same H (upd H l (.lst [.int 1, .int 5, .int 7, .int 11, .int 13, .int 23])) := (Same.refl H).new gl
    have hat : atI [V.int 1, V.int 5, V.int 7, V.int 11, V.int 13, V.int 23] (b % 6) = some (.int ([1, 5, 7, 11, 13, 23].getD (b % 6).toNat 0)) := by
      have : (b % 6).toNat = 0 ∨ (b % 6).toNat = 1 ∨ (b % 6).toNat = 2 ∨ (b % 6).toNat = 3 ∨ (b % 6).toNat = 4 ∨ (b % 6).toNat = 5 := by omega
      have e1 : (((b % 6).toNat : Nat) : Int) = b % 6 := by omega
      rw [← e1]
      simp only [Int.toNat_natCast]
      rcases this with e | e | e | e | e | e <;> rw [e] <;> exact atI_nat rfl
    refine ⟨_, rfl, _, _, rfl, rfl, (by show (0 : Int) < 6; decide), l, _, _, _, rfl, rfl, SqL.of upd_same, hat, ?_⟩
    refine ⟨_, _, rfl, rfl, .inl ⟨by omega, by omega⟩, ?_⟩
    refine ⟨_, rfl, _, _, rfl, rfl, ⟨by decide, by decide⟩, _, _, rfl, rfl, _, _, rfl, rfl, (by show (0 : Int) < 24; decide), ?_⟩
    refine ⟨_, rfl, _, _, rfl, rfl, ⟨by decide, by decide⟩, ?_⟩
    obtain ⟨r1, r2⟩ := turnK_rng b k
    have q' : ∀ H' : Hp, Same (upd H l (.lst [.int 1, .int 5, .int 7, .int 11, .int 13, .int 23])) H' → Q (.str (nameM b k)) H' := fun H' s2 => q H' (s1.trans s2)
    clear hat
    have hb' : 0 ≤ b / 144 := by omega
    have hb3 : b / 144 < 2147483647 := by omega
    have q2 : ∀ H' : Hp, Same (upd H l (.lst [.int 1, .int 5, .int 7, .int 11, .int 13, .int 23])) H' → ∀ x, x = nameM b k → Q (.str x) H' := fun H' s2 x e => by rw [e]; exact q' H' s2
    clear q'
    unfold nameM at q2
    show gName 0 (V.int (b / 144)) [some (.int b), some (.int (turnK b k)), some (.str "abcdefghijklmnopqrstuvwxyz"), none, none, none, none] _ _
    generalize upd H l (.lst [.int 1, .int 5, .int 7, .int 11, .int 13, .int 23]) = H1 at q2 ⊢
    generalize turnK b k = k' at r1 r2 q2 ⊢
    generalize b / 144 = b' at hb' hb3 q2 ⊢
    simp only at q2
    refine ⟨_, rfl, _, _, rfl, rfl, (by show (0 : Int) < 4; decide), rfl, _, rfl, ite2I (fun e1 => ?_) (fun e1 => ?_)⟩
    · rw [if_pos e1] at q2
      refine ⟨_, rfl, _, rfl, _, _, rfl, rfl, ⟨by decide, by decide⟩, _, rfl, _, _, rfl, rfl, ⟨by decide, by decide⟩, _, _, rfl, rfl, _, _, rfl, rfl, (by show (0 : Int) < 26; decide), _, _, _, rfl, rfl, lets_size, atI_getD _ 0 (by omega) (by rw [← lets_eq, lets_len]; omega), ?_⟩
      refine ⟨_, rfl, _, _, rfl, rfl, (by show (0 : Int) < 8; decide), _, _, rfl, rfl, _, _, rfl, rfl, (by omega), (by omega), ?_⟩
      exact q2 _ (Same.refl _) _ rfl
    · rw [if_neg e1] at q2
      refine ⟨_, rfl, _, _, rfl, rfl, (by show (0 : Int) < 4; decide), rfl, _, rfl, ite2I (fun e2 => ?_) (fun e2 => ?_)⟩
      · rw [if_pos e2] at q2
        refine ⟨_, rfl, _, rfl, _, _, rfl, rfl, ⟨by decide, by decide⟩, _, _, rfl, rfl, (by show (0 : Int) < 26; decide), _, _, _, rfl, rfl, lets_size, atI_getD _ 0 (by omega) (by rw [← lets_eq, lets_len]; omega), ?_⟩
        refine ⟨_, rfl, _, _, rfl, rfl, ⟨by decide, by decide⟩, _, _, rfl, rfl, (by show (0 : Int) < 6; decide), _, _, rfl, rfl, _, _, rfl, rfl, (by omega), (by omega), ?_⟩
        refine ⟨_, rfl, _, rfl, ?_, _, _, rfl, rfl, ?_, ?_⟩
        · exact Nat.lt_of_le_of_lt (Nat.log2_le_self _) (by omega)
        · obtain ⟨n1, n2⟩ := num_text (n := k') r1 (by omega)
          have n3 : (Str.ofString (toString k')).length ≤ 60 := by
            have := congrArg List.length n1
            rw [List.length_map, Array.length_toList] at this
            show (Str.ofString (toString k')).cps.size ≤ 60
            omega
          have n4 : (⟨(List.replicate (1 + b' / 104 % 6).toNat (lets.cps.toList.getD (b' / 4 % 26).toNat 0)).toArray⟩ : Str).length ≤ 6 := by
            show (List.replicate (1 + b' / 104 % 6).toNat (lets.cps.toList.getD (b' / 4 % 26).toNat 0)).toArray.size ≤ 6
            rw [List.size_toArray, List.length_replicate]; omega
          exact Nat.le_of_lt (small1000 (by
            have n4' : (⟨(List.replicate (1 + b' / 104 % 6).toNat (("abcdefghijklmnopqrstuvwxyz" : Str).cps.toList.getD (b' / 4 % 26).toNat 0)).toArray⟩ : Str).length ≤ 6 := n4
            omega))
        · exact q2 _ (Same.refl _) _ rfl
      · rw [if_neg e2] at q2
        have hz1 : 0 < 1 + b' / 4 % 8 := by omega
        have hz2 : 1 + b' / 4 % 8 ≤ 8 := by omega
        refine ⟨_, rfl, _, _, rfl, rfl, ⟨by decide, by decide⟩, _, _, rfl, rfl, (by show (0 : Int) < 8; decide), _, _, rfl, rfl, ?_⟩
        show gName 3 (V.int (1 + b' / 4 % 8)) [some (.int b'), some (.int k'), some (.str "abcdefghijklmnopqrstuvwxyz"), none, none, none, none] _ _
        generalize 1 + b' / 4 % 8 = z at q2 hz1 hz2 ⊢
        refine ⟨_, rfl, _, rfl, (by omega), (by omega), for_range (fun i σ H2 => H2 = H1 ∧ ∃ v5 v6 : Option V, σ = [some (.int b'), some (.int k'), some (.str "abcdefghijklmnopqrstuvwxyz"), some (.int z), some (.str ⟨(nm3 b' k' z i).toArray⟩), v5, v6])
          ⟨rfl, none, none, rfl⟩ ?_ ?_⟩
        · rintro i σ H2 hi ⟨rfl, v5, v6, rfl⟩
          have hi8 : i ≤ 7 := by omega
          have hsq : (11 * (i : Int)) * (i : Int) ≤ 539 ∧ 0 ≤ (11 * (i : Int)) * (i : Int) := by
            have : i = 0 ∨ i = 1 ∨ i = 2 ∨ i = 3 ∨ i = 4 ∨ i = 5 ∨ i = 6 ∨ i = 7 := by omega
            rcases this with e | e | e | e | e | e | e | e <;> subst e <;> decide
          have hnl : (⟨(nm3 b' k' z i).toArray⟩ : Str).length = i := by
            show (nm3 b' k' z i).toArray.size = i
            rw [List.size_toArray, nm3_len]
          have hst : ∀ (c : Nat), nm3 b' k' z (i + 1) = nm3 b' k' z i ++ [c] → (⟨(nm3 b' k' z i).toArray⟩ : Str) ++ (⟨#[c]⟩ : Str) = ⟨(nm3 b' k' z (i + 1)).toArray⟩ := fun c e => by
            rw [e]
            show (⟨(nm3 b' k' z i).toArray ++ #[c]⟩ : Str) = _
            simp
          have hlen1 : ∀ c : Nat, (⟨(nm3 b' k' z i).toArray⟩ : Str).length + (⟨#[c]⟩ : Str).length ≤ sizeLine := fun c => by
            rw [hnl]
            exact Nat.le_of_lt (small1000 (by show i + 1 ≤ 1000; omega))
          rw [Int.zero_add]
          refine ⟨_, rfl, _, rfl, _, _, rfl, rfl, .inl ⟨by decide, by decide⟩, _, rfl, _, _, rfl, rfl, .inl ⟨by omega, by omega⟩, _, _, rfl, rfl, _, _, rfl, rfl, ⟨by omega, by omega⟩, ?_⟩
          refine ⟨_, rfl, _, rfl, _, _, rfl, rfl, ⟨by decide, by decide⟩, _, rfl, _, _, rfl, rfl, hz1, rfl, _, rfl, ite2I (fun e3 => ?_) (fun e3 => ?_)⟩
          · refine ⟨_, rfl, _, rfl, _, rfl, _, rfl, _, _, rfl, rfl, _, _, rfl, rfl, (by show (0 : Int) < 26; decide), _, _, _, rfl, rfl, lets_size, atI_getD _ 0 (by omega) (by rw [← lets_eq, lets_len]; omega), _, _, rfl, rfl, hlen1 _, ?_⟩
            rw [hst _ (by show nm3 b' k' z i ++ [_] = _; rw [if_pos e3]; rfl)]
            exact ⟨rfl, _, _, rfl⟩
          · refine ⟨_, rfl, rfl, _, rfl, ite2I (fun e4 => ?_) (fun e4 => ?_)⟩
            · refine ⟨_, rfl, _, rfl, _, rfl, _, _, rfl, rfl, (by show (0 : Int) < 26; decide), _, _, _, rfl, rfl, lets_size, atI_getD _ 0 (by omega) (by rw [← lets_eq, lets_len]; omega), _, _, rfl, rfl, hlen1 _, ?_⟩
              rw [hst _ (by show nm3 b' k' z i ++ [_] = _; rw [if_neg e3, if_pos e4]; rfl)]
              exact ⟨rfl, _, _, rfl⟩
            · refine ⟨_, rfl, _, rfl, _, _, rfl, rfl, (by decide +kernel), _, rfl, _, _, rfl, rfl, (by show (0 : Int) < 36; decide), _, _, _, rfl, rfl, letsg_size, atI_getD _ 0 (by omega) (by rw [letsg_eq, signs_len]; omega), _, _, rfl, rfl, hlen1 _, ?_⟩
              rw [hst _ (by show nm3 b' k' z i ++ [_] = _; rw [if_neg e3, if_neg e4, letsg_eq]; rfl)]
              exact ⟨rfl, _, _, rfl⟩
        · rintro σ H2 ⟨rfl, v5, v6, rfl⟩
          exact ⟨_, rfl, q2 _ (Same.refl _) _ rfl⟩
def spCell (K : PySem.W.Frag) : Sp := fun vs H Q _ => ∃ (a : Addr) (ns : List Int) (k : Int), vs = [.ref a, .int k] ∧ SqL K H a (ns.map V.int) ∧ 0 ≤ k ∧ ∀ c : Int, Q (.int c) H
def Bnd (ns : List Int) : Prop := ∀ n ∈ ns, 0 ≤ n ∧ n < 2147483647
def spStream : Sp := fun vs H Q _ => ∃ (c k : Int), vs = [.int c, .int k] ∧ 0 ≤ k ∧ k < 1000 ∧ ∀ (l : Addr) (xs : List Int) (H' : Hp), Same H H' → H l = none → H' l = some (.lst (xs.map V.int)) → xs.length = 6 → Bnd xs → Q (.ref l) H'
def spPool (K : PySem.W.Frag) : Sp := fun vs H Q _ => ∃ (a : Addr) (ns : List Int) (k : Int), vs = [.ref a, .int k] ∧ SqL K H a (ns.map V.int) ∧ 0 ≤ k ∧ ∀ c : Int, 0 ≤ c → c < 2147483647 → Q (.int c) H
theorem ok_cell (T : Txt K mg) : L2.Cl P w K mg base 1 "_law_cell_at" ["_law_script", "_law_k"] (spCell K) := by
  refine Cl.of T.d_law_cell_at sc_law_cell_at (fun vs H Q E h => ?_) (fun _ _ _ _ _ _ us hl => match us, hl with | [_, _], _ => rfl) (fun f cdv A outer s H vs Q E hr h => ?_)
  · obtain ⟨a, ns, k, rfl, _⟩ := h
    rfl
  · obtain ⟨a, ns, k, rfl, hS, hk, q⟩ := h
    refine ⟨_, (pss_cons (ps_if (pt_cmpR op_lt (pv 1) (pe_callB call_len_seq (by rfl) T.n_len PySem.boot_len (pa_cons (pv 0) pa_nil)) (nomark _))
        (pss_one (ps_ret (pe_ix ix_list (pv 0) (pv 1) (fun _ _ => rfl)))) pss_nil)
      (pss_one (ps_ret pe_int))), ?_⟩
    refine ⟨_, rfl, _, rfl, a, _, rfl, .inl hS, _, _, rfl, rfl, _, rfl, ?_⟩
    refine ite2 (fun hlt => ?_) (fun hlt => ?_)
    · have hlt' : k < (ns.length : Int) := by simpa using hlt
      refine ⟨_, rfl, _, rfl, a, _, _, _, rfl, rfl, hS, atI_map V.int ns 0 hk hlt', ?_⟩
      exact q _
    · exact q 0
theorem ok_pool (T : Txt K mg) : L2.Cl P w K mg base 2 "_law_pool" ["_law_script", "_law_k"] (spPool K) := by
  have C_law_cell_at := ok_cell (P := P) (w := w) (base := base) T
  refine Cl.of T.d_law_pool sc_law_pool (fun vs H Q E h => ?_) (fun _ _ _ _ _ _ us hl => match us, hl with | [_, _], _ => rfl) (fun f cdv A outer s H vs Q E hr h => ?_)
  · obtain ⟨a, ns, k, rfl, _⟩ := h
    rfl
  · obtain ⟨a, ns, k, rfl, hS, hk, q⟩ := h
    refine ⟨_, (pss_one (ps_ret (pe_op op_mod (pe_op op_mul (pe_fn C_law_cell_at hr (by rfl) (pa_cons (pv 0) (pa_cons (pv 1) pa_nil))) pe_int) pe_int))), ?_⟩
    refine ⟨_, rfl, _, rfl, a, ns, k, rfl, hS, hk, fun c => ?_⟩
    refine ⟨_, _, rfl, rfl, .inr ⟨by decide, by decide⟩, _, _, rfl, rfl, (by show (0 : Int) < 2147483647; decide), q _ (by omega) (by omega)⟩
theorem ok_stream (T : Txt K mg) : L2.Cl P w K mg base 1 "_law_stream" ["_law_cell", "_law_k"] spStream := by
  refine Cl.of T.d_law_stream sc_law_stream (fun vs H Q E h => ?_) (fun _ _ _ _ _ _ us hl => match us, hl with | [_, _], _ => rfl) (fun f cdv A outer s H vs Q E hr h => ?_)
  · obtain ⟨c, k, rfl, _⟩ := h
    rfl
  · obtain ⟨c, k, rfl, hk1, hk2, q⟩ := h
    refine ⟨_, (pss_cons (ps_set (i := 2) sc_law_stream.nd rfl (Or.inl rfl) (pe_lst pa_nil))
      (pss_cons (ps_set (i := 3) sc_law_stream.nd rfl (Or.inl rfl) (pe_op op_add (pe_op op_add (pe_op op_mod (pv 0) pe_int) (pe_op op_mul (pe_op op_mul pe_int (pv 1)) (pv 1))) pe_int))
      (pss_cons (ps_for PassesOwn.never rfl (pi_list (pe_lst (pa_cons pe_int (pa_cons pe_int (pa_cons pe_int (pa_cons pe_int (pa_cons pe_int (pa_cons pe_int pa_nil)))))))) (pg_name (i := 4) sc_law_stream.nd rfl (Or.inl rfl))
        (pss_cons (ps_set (i := 3) sc_law_stream.nd rfl (Or.inl rfl) (pe_op op_mod (pe_op op_add (pe_op op_add (pe_op op_mul (pv 3) (pv 3)) (pe_op op_mul (pv 4) (pv 3))) (pv 1)) pe_int))
        (pss_one (ps_expr (pe_bm PySem.F.plainAttrs_list PySem.F.slot_list_append PySem.F.type_list_append mt_append (pv 2) (pa_cons (pv 3) pa_nil))))))
      (pss_one (ps_ret (pv 2)))))), ?_⟩
    refine ⟨(by show 0 ≤ sizeLine; decide), fun l hl => ?_⟩
    have s1 : Same H (upd H l (.lst [])) := (Same.refl H).new hl
    have hkk : 48271 * k * k ≤ 48271 * 1000 * 1000 := Int.mul_le_mul (by omega) (by omega) hk1 (by decide)
    have hkk0 : 0 ≤ 48271 * k * k := Int.mul_nonneg (by omega) hk1
    refine ⟨_, rfl, _, _, rfl, rfl, (by show (0 : Int) < 2147483647; decide), _, rfl, _, _, rfl, rfl, .inl ⟨by decide, by decide⟩, _, rfl, _, _, rfl, rfl, .inl ⟨by omega, by omega⟩, _, _, rfl, rfl, _, _, rfl, rfl, ?_⟩
    have z0a : 0 ≤ c % 2147483647 + 48271 * k * k + 7 := by omega
    have z0b : c % 2147483647 + 48271 * k * k + 7 < 1000000000000 := by omega
    refine ⟨(by show 6 ≤ sizeLine; decide), fun b hb => ?_⟩
    have hlb : l ≠ b := ne_of_none (upd_same (H := H) (a := l) (o := .lst [])) hb
    refine ⟨b, rfl, ⟨_, SqL.of upd_same⟩, for_list (K := K) (a := b) (xs := [.int 48271, .int 69621, .int 16807, .int 39373, .int 62089, .int 40692]) (fun i σ H2 => ∃ (zs : List Int) (z : Int) (v4 : Option V), σ = [some (.int c), some (.int k), some (.ref l), some (.int z), v4] ∧ Same H H2 ∧ H2 l = some (.lst (zs.map V.int)) ∧ H2 b = some (.lst [.int 48271, .int 69621, .int 16807, .int 39373, .int 62089, .int 40692]) ∧ zs.length = i ∧ Bnd zs ∧ 0 ≤ z ∧ z < 1000000000000)
      ⟨[], _, none, rfl, s1.new hb, upd_keep upd_same hb, upd_same, rfl, (fun n hn => by simp at hn), z0a, z0b⟩ (fun i σ H2 _ ⟨_, _, _, _, _, _, h, _⟩ => SqL.of h) ?_ ?_⟩
    · rintro i x σ H2 hx ⟨zs, z, v4, rfl, s2, hl2, hb2, hlen, hbd, hz0, hz1⟩
      have hi : i < 6 := (List.getElem?_eq_some_iff.mp hx).1
      obtain ⟨n, rfl, hn0, hn1⟩ : ∃ n : Int, x = .int n ∧ 0 ≤ n ∧ n ≤ 70000 := by
        have := List.mem_of_getElem? hx
        simp only [List.mem_cons, List.not_mem_nil, or_false] at this
        rcases this with rfl | rfl | rfl | rfl | rfl | rfl <;> exact ⟨_, rfl, by decide, by decide⟩
      refine ⟨_, rfl, _, rfl, _, _, rfl, rfl, .inl ⟨by omega, by omega⟩, _, rfl, _, rfl, _, _, rfl, rfl, .inl ⟨by omega, by omega⟩, _, _, rfl, rfl, _, rfl, _, _, rfl, rfl, _, _, rfl, rfl, (by show (0 : Int) < 2147483647; decide), ?_⟩
      generalize z * z + n * z + k = y
      refine ⟨_, rfl, .inl ⟨rfl, _, SqL.of hl2⟩, _, rfl, l, _, _, rfl, rfl, hl2, small1000 (by rw [List.length_map]; omega), ?_⟩
      refine ⟨zs ++ [y % 2147483647], y % 2147483647, _, rfl, s2.put hl, by rw [upd_same, List.map_append]; rfl, by rw [upd_ne hlb.symm]; exact hb2, by simp [hlen], fun n hn => ?_, by omega, by omega⟩
      rcases List.mem_append.mp hn with h | h
      · exact hbd n h
      · rw [List.mem_singleton.mp h]; omega
    · rintro σ H2 ⟨zs, z, v4, rfl, s2, hl2, hb2, hlen, hbd, hz0, hz1⟩
      exact ⟨_, rfl, q l zs _ s2 hl hl2 hlen hbd⟩
def New (H0 : Hp) (l : Addr) (A : List Q4) : Prop := H0 l = none ∧ ∀ (i : Nat) (q : Q4) (x : Nat), A[i]? = some q → x < 4 → H0 (q.nth x) = none
def Bare (hs : List Pp) : Prop := ∀ pp ∈ hs, pp.rows = [] ∧ pp.owns = [] ∧ pp.gives = [] ∧ 0 ≤ pp.sh ∧ pp.sh < 100
def spBegun (K : PySem.W.Frag) : Sp := fun vs H Q _ => ∃ (a : Addr) (ns : List Int), vs = [.ref a] ∧ SqL K H a (ns.map V.int) ∧ ∀ (l : Addr) (A : List Q4) (hs : List Pp) (H' : Hp), Same H H' → HouseAt H' l A [] hs → New H l A → 1 ≤ hs.length → hs.length ≤ 24 → Bare hs → Q (.ref l) H'
theorem New.snoc {H : Hp} {l : Addr} {A : List Q4} {q : Q4} (h : New H l A) (hq : ∀ x, x < 4 → H (q.nth x) = none) : New H l (A ++ [q]) := by
  refine ⟨h.1, fun i u x e hx => ?_⟩
  by_cases hi : i < A.length
  · rw [List.getElem?_append_left hi] at e
    exact h.2 i u x e hx
  · rw [List.getElem?_append_right (by omega)] at e
    have h0 : i - A.length = 0 := by
      have := (List.getElem?_eq_some_iff.mp e).1
      simp only [List.length_singleton] at this
      omega
    rw [h0] at e
    simp only [List.getElem?_cons_zero, Option.some.injEq] at e
    rw [← e]
    exact hq x hx
theorem lt4 {x : Nat} (h : x < 4) : x = 0 ∨ x = 1 ∨ x = 2 ∨ x = 3 := by omega
theorem house0 {H : Hp} {l : Addr} (h : H l = some (.lst [])) : HouseAt H l [] [] [] := ⟨h, rfl, fun i q pp e => by simp at e, fun i q x e => by simp at e, fun d hd => by simp at hd, fun i j q u x y e => by simp at e⟩
theorem begun_step {H H2 : Hp} {l r o g p : Addr} {A : List Q4} {hs : List Pp} {c : Int} (s2 : Same H H2) (hh : HouseAt H2 l A [] hs) (hn : New H l A) (hb : Bare hs) (hc0 : 0 ≤ c) (hc1 : c < 100) (gr : H2 r = none) (go : upd H2 r (.lst []) o = none) (gg : upd (upd H2 r (.lst [])) o (.lst []) g = none)
    (gp : upd (upd (upd H2 r (.lst [])) o (.lst [])) g (.lst []) p = none) :
    HouseAt (upd (upd (upd (upd (upd H2 r (.lst [])) o (.lst [])) g (.lst [])) p (.lst [.ref r, .ref o, .ref g, .int c])) l (.lst ((A.map fun q => V.ref q.p) ++ [.ref p]))) l (A ++ [⟨p, r, o, g⟩]) [] (hs ++ [⟨[], [], [], c⟩]) ∧ New H l (A ++ [⟨p, r, o, g⟩]) ∧ Bare (hs ++ [⟨[], [], [], c⟩]) := by
  have hro : r ≠ o := ne_of_none (upd_same (H := H2) (a := r) (o := .lst [])) go
  have hrg : r ≠ g := ne_of_none (upd_keep (upd_same (H := H2) (a := r) (o := .lst [])) go) gg
  have hrp : r ≠ p := ne_of_none (upd_keep (upd_keep (upd_same (H := H2) (a := r) (o := .lst [])) go) gg) gp
  have hog : o ≠ g := ne_of_none (upd_same (H := upd H2 r (.lst [])) (a := o) (o := .lst [])) gg
  have hop : o ≠ p := ne_of_none (upd_keep (upd_same (H := upd H2 r (.lst [])) (a := o) (o := .lst [])) gg) gp
  have hgp : g ≠ p := ne_of_none (upd_same (H := upd (upd H2 r (.lst [])) o (.lst [])) (a := g) (o := .lst [])) gp
  have no : H2 o = none := by rw [upd_ne hro.symm] at go; exact go
  have ng : H2 g = none := by rw [upd_ne hog.symm, upd_ne hrg.symm] at gg; exact gg
  have np : H2 p = none := by rw [upd_ne hgp.symm, upd_ne hop.symm, upd_ne hrp.symm] at gp; exact gp
  have hnew : ∀ x, x < 4 → H2 ((⟨p, r, o, g⟩ : Q4).nth x) = none := fun x hx => by
    rcases lt4 hx with rfl | rfl | rfl | rfl
    · exact np
    · exact gr
    · exact no
    · exact ng
  have S : Same H2 (upd (upd (upd (upd H2 r (.lst [])) o (.lst [])) g (.lst [])) p (.lst [.ref r, .ref o, .ref g, .int c])) := ((((Same.refl H2).new gr).new go).new gg).new gp
  refine ⟨HouseAt.add hh S hnew (fun x y hx hy z => ?_) upd_same ?_ ?_ ?_, hn.snoc fun x hx => s2.free (hnew x hx), fun pp hpp => ?_⟩
  · rcases lt4 hx with rfl | rfl | rfl | rfl <;> rcases lt4 hy with rfl | rfl | rfl | rfl <;> first | rfl | (exfalso; first | exact hro z | exact hro z.symm | exact hrg z | exact hrg z.symm | exact hrp z | exact hrp z.symm | exact hog z | exact hog z.symm | exact hop z | exact hop z.symm | exact hgp z | exact hgp z.symm)
  · exact upd_keep (upd_keep (upd_keep upd_same go) gg) gp
  · exact upd_keep (upd_keep upd_same gg) gp
  · exact upd_keep upd_same gp
  · rcases List.mem_append.mp hpp with z | z
    · exact hb pp z
    · rw [List.mem_singleton.mp z]
      exact ⟨rfl, rfl, rfl, hc0, hc1⟩
theorem ok_begun (T : Txt K mg) : L2.Cl P w K mg base 2 "_law_begun" ["_law_script"] (spBegun K) := by
  have C_law_cell_at := ok_cell (P := P) (w := w) (base := base) T
  refine Cl.of T.d_law_begun sc_law_begun (fun vs H Q E h => ?_) (fun _ _ _ _ _ _ us hl => match us, hl with | [_], _ => rfl) (fun f cdv A outer s H vs Q E hr h => ?_)
  · obtain ⟨a, ns, rfl, _⟩ := h
    rfl
  · obtain ⟨a, ns, rfl, hS, q⟩ := h
    refine ⟨_, (pss_cons (ps_set (i := 1) sc_law_begun.nd rfl (Or.inl rfl) (pe_fn C_law_cell_at hr (by rfl) (pa_cons (pv 0) (pa_cons pe_int pa_nil))))
      (pss_cons (ps_set (i := 2) sc_law_begun.nd rfl (Or.inl rfl) (pe_op op_add pe_int (pe_op op_mod (pv 1) pe_int)))
      (pss_cons (ps_if (pt_cmpR op_eq (pe_op op_mod (pe_op op_fdiv (pv 1) pe_int) pe_int) pe_int (nomark _))
        (pss_one (ps_set (i := 2) sc_law_begun.nd rfl (Or.inl rfl) (pe_op op_add pe_int (pe_op op_mod (pe_op op_fdiv (pv 1) pe_int) pe_int)))) pss_nil)
      (pss_cons (ps_set (i := 3) sc_law_begun.nd rfl (Or.inl rfl) (pe_lst pa_nil))
      (pss_cons (ps_for PassesOwn.never rfl (pi_range1 (by rfl) T.n_range (pa_cons (pv 2) pa_nil)) (pg_name (i := 4) sc_law_begun.nd rfl (Or.inl rfl))
        (pss_one (ps_expr (pe_bm PySem.F.plainAttrs_list PySem.F.slot_list_append PySem.F.type_list_append mt_append (pv 3) (pa_cons (pe_lst (pa_cons (pe_lst pa_nil) (pa_cons (pe_lst pa_nil) (pa_cons (pe_lst pa_nil) (pa_cons (pe_op op_mul (pv 4) (pe_op op_mod (pe_op op_fdiv (pv 1) pe_int) pe_int)) pa_nil))))) pa_nil)))))
      (pss_one (ps_ret (pv 3)))))))), ?_⟩
    refine ⟨_, rfl, a, ns, 0, rfl, hS, (by decide), fun c => ?_⟩
    refine ⟨_, rfl, _, _, rfl, rfl, (by show (0 : Int) < 6; decide), _, _, rfl, rfl, ?_⟩
    refine ⟨_, rfl, _, _, rfl, rfl, ⟨by decide, by decide⟩, _, _, rfl, rfl, (by show (0 : Int) < 8; decide), rfl, _, rfl, ite2I (fun e1 => ?_) (fun e1 => ?_)⟩
    · refine ⟨_, rfl, _, _, rfl, rfl, ⟨by decide, by decide⟩, _, _, rfl, rfl, (by show (0 : Int) < 24; decide), _, _, rfl, rfl, ?_⟩
      have hm1 : 1 ≤ 1 + c / 48 % 24 := by omega
      have hm2 : 1 + c / 48 % 24 ≤ 24 := by omega
      show gName 2 (V.int (1 + c / 48 % 24)) _ _ _
      generalize 1 + c / 48 % 24 = m at hm1 hm2 ⊢
      refine ⟨(by show 0 ≤ sizeLine; decide), fun l hl => ?_⟩
      have s1 : Same H (upd H l (.lst [])) := (Same.refl H).new hl
      refine ⟨_, rfl, _, rfl, (by omega), (by omega), for_range (fun i σ H2 => ∃ (A : List Q4) (hs : List Pp) (v4 : Option V), σ = [some (.ref a), some (.int c), some (.int m), some (.ref l), v4] ∧ Same H H2 ∧ HouseAt H2 l A [] hs ∧ New H l A ∧ hs.length = i ∧ Bare hs)
        ⟨[], [], none, rfl, s1, house0 upd_same, ⟨hl, fun i q x e => by simp at e⟩, rfl, fun pp hpp => by simp at hpp⟩ ?_ ?_⟩
      · rintro i σ H2 hi ⟨A, hs, v4, rfl, s2, hh, hn, hlen, hb⟩
        have hk0 : 0 ≤ (0 + (i : Int)) := by omega
        have hk1 : (0 + (i : Int)) ≤ 23 := by omega
        generalize 0 + (i : Int) = k at hk0 hk1 ⊢
        have hc1 : 0 ≤ c / 6 % 5 := by omega
        have hc2 : c / 6 % 5 ≤ 4 := by omega
        have hm0 : 0 ≤ k * (c / 6 % 5) := Int.mul_nonneg hk0 hc1
        have hm3 : k * (c / 6 % 5) ≤ 23 * 4 := Int.mul_le_mul hk1 hc2 hc1 (by decide)
        refine ⟨_, rfl, .inl ⟨rfl, _, SqL.of hh.ll⟩, (by show 0 ≤ sizeLine; decide), fun r gr => ⟨(by show 0 ≤ sizeLine; decide), fun o go => ⟨(by show 0 ≤ sizeLine; decide), fun g gg => ?_⟩⟩⟩
        refine ⟨_, rfl, _, rfl, _, _, rfl, rfl, ⟨by decide, by decide⟩, _, _, rfl, rfl, (by show (0 : Int) < 5; decide), _, _, rfl, rfl, .inl ⟨by omega, by omega⟩, (by show 4 ≤ sizeLine; decide), fun p gp => ?_⟩
        obtain ⟨S1, S2, S3⟩ := begun_step s2 hh hn hb hm0 (by omega) gr go gg gp
        have hll := (((((Same.refl H2).new gr).new go).new gg).new (o := .lst [.ref r, .ref o, .ref g, .int (k * (c / 6 % 5))]) gp) _ _ hh.ll
        refine ⟨l, _, _, rfl, rfl, hll, small1000 (by rw [List.length_map, hh.len]; omega), ?_⟩
        exact ⟨_, _, _, rfl, ((((s2.new gr).new go).new gg).new gp).put hl, S1, S2, by rw [List.length_append, hlen]; rfl, S3⟩
      · rintro σ H2 ⟨A, hs, v4, rfl, s2, hh, hn, hlen, hb⟩
        exact ⟨_, rfl, q l A hs _ s2 hh hn (by omega) (by omega) hb⟩
    · have hm1 : 1 ≤ 1 + c % 6 := by omega
      have hm2 : 1 + c % 6 ≤ 24 := by omega
      show tNext _ [some (.ref a), some (.int c), some (.int (1 + c % 6)), none, none] _
      generalize 1 + c % 6 = m at hm1 hm2 ⊢
      refine ⟨(by show 0 ≤ sizeLine; decide), fun l hl => ?_⟩
      have s1 : Same H (upd H l (.lst [])) := (Same.refl H).new hl
      refine ⟨_, rfl, _, rfl, (by omega), (by omega), for_range (fun i σ H2 => ∃ (A : List Q4) (hs : List Pp) (v4 : Option V), σ = [some (.ref a), some (.int c), some (.int m), some (.ref l), v4] ∧ Same H H2 ∧ HouseAt H2 l A [] hs ∧ New H l A ∧ hs.length = i ∧ Bare hs)
        ⟨[], [], none, rfl, s1, house0 upd_same, ⟨hl, fun i q x e => by simp at e⟩, rfl, fun pp hpp => by simp at hpp⟩ ?_ ?_⟩
      · rintro i σ H2 hi ⟨A, hs, v4, rfl, s2, hh, hn, hlen, hb⟩
        have hk0 : 0 ≤ (0 + (i : Int)) := by omega
        have hk1 : (0 + (i : Int)) ≤ 23 := by omega
        generalize 0 + (i : Int) = k at hk0 hk1 ⊢
        have hc1 : 0 ≤ c / 6 % 5 := by omega
        have hc2 : c / 6 % 5 ≤ 4 := by omega
        have hm0 : 0 ≤ k * (c / 6 % 5) := Int.mul_nonneg hk0 hc1
        have hm3 : k * (c / 6 % 5) ≤ 23 * 4 := Int.mul_le_mul hk1 hc2 hc1 (by decide)
        refine ⟨_, rfl, .inl ⟨rfl, _, SqL.of hh.ll⟩, (by show 0 ≤ sizeLine; decide), fun r gr => ⟨(by show 0 ≤ sizeLine; decide), fun o go => ⟨(by show 0 ≤ sizeLine; decide), fun g gg => ?_⟩⟩⟩
        refine ⟨_, rfl, _, rfl, _, _, rfl, rfl, ⟨by decide, by decide⟩, _, _, rfl, rfl, (by show (0 : Int) < 5; decide), _, _, rfl, rfl, .inl ⟨by omega, by omega⟩, (by show 4 ≤ sizeLine; decide), fun p gp => ?_⟩
        obtain ⟨S1, S2, S3⟩ := begun_step s2 hh hn hb hm0 (by omega) gr go gg gp
        have hll := (((((Same.refl H2).new gr).new go).new gg).new (o := .lst [.ref r, .ref o, .ref g, .int (k * (c / 6 % 5))]) gp) _ _ hh.ll
        refine ⟨l, _, _, rfl, rfl, hll, small1000 (by rw [List.length_map, hh.len]; omega), ?_⟩
        exact ⟨_, _, _, rfl, ((((s2.new gr).new go).new gg).new gp).put hl, S1, S2, by rw [List.length_append, hlen]; rfl, S3⟩
      · rintro σ H2 ⟨A, hs, v4, rfl, s2, hh, hn, hlen, hb⟩
        exact ⟨_, rfl, q l A hs _ s2 hh hn (by omega) (by omega) hb⟩
def spFresh : Sp := fun vs H Q _ => ∃ (p r o g : Addr) (b k sh : Int), vs = [.ref p, .int b, .int k] ∧ H p = some (.lst [.ref r, .ref o, .ref g, .int sh]) ∧ 0 ≤ b ∧ b < 2147483647 ∧ 0 ≤ k ∧ ∀ H' : Hp, Same H H' → Q (.str (nameM b ((k + sh) % 24))) H'
theorem ok_fresh (T : Txt K mg) : L2.Cl P w K mg base 2 "_law_fresh" ["_law_part", "_law_pool_here", "_law_k"] spFresh := by
  have C_law_name := ok_name (P := P) (w := w) (base := base) T
  refine Cl.of T.d_law_fresh sc_law_fresh (fun vs H Q E h => ?_) (fun _ _ _ _ _ _ us hl => match us, hl with | [_, _, _], _ => rfl) (fun f cdv A outer s H vs Q E hr h => ?_)
  · obtain ⟨p, r, o, g, b, k, sh, rfl, _⟩ := h
    rfl
  · obtain ⟨p, r, o, g, b, k, sh, rfl, hp, hb0, hb1, hk, q⟩ := h
    refine ⟨_, (pss_one (ps_ret (pe_fn C_law_name hr (by rfl) (pa_cons (pv 1) (pa_cons (pe_op op_mod (pe_op op_add (pv 2) (pe_ix ix_list (pv 0) pe_int (fun _ _ => rfl))) pe_int) pa_nil))))), ?_⟩
    refine ⟨_, rfl, _, rfl, _, rfl, p, _, _, _, rfl, rfl, SqL.of hp, rfl, _, _, rfl, rfl, _, _, rfl, rfl, (by show (0 : Int) < 24; decide), ?_⟩
    exact ⟨b, (k + sh) % 24, rfl, hb0, hb1, by omega, by omega, q⟩
def KeepH (l : Addr) (A : List Q4) (H H' : Hp) : Prop := ∀ a o, ¬ inH l A [] a → H a = some o → H' a = some o
structure PoolsAt (H : Hp) (pl l : Addr) (A : List Q4) (b0 b1 b2 : Int) : Prop where
  h : H pl = some (.lst [.int b0, .int b1, .int b2])
  n : ¬ inH l A [] pl
  r0 : 0 ≤ b0 ∧ b0 < 2147483647
  r1 : 0 ≤ b1 ∧ b1 < 2147483647
  r2 : 0 ≤ b2 ∧ b2 < 2147483647
def spPairs : Sp := fun vs H Q _ => ∃ (l pl x : Addr) (A : List Q4) (hs : List Pp) (b0 b1 b2 : Int) (i j n : Nat) (pp pq : Pp) (xs : List Int), vs = [.ref l, .ref pl, .int i, .int j, .ref x] ∧ HouseAt H l A [] hs ∧ PoolsAt H pl l A b0 b1 b2 ∧ XsAt H (inH l A []) x xs ∧ xs.length = 6 ∧ Bnd xs ∧
  hs[i]? = some pp ∧ hs[j]? = some pq ∧ i ≠ j ∧ pp.owns = drawnN b0 pp.sh n ∧ n ≤ 17 ∧ (∀ y ∈ pq.gives, NameOk y) ∧ pq.gives.length ≤ 100 ∧
  ∀ (m : Nat) (ps : List (Str × Str)) (q : Addr) (H' : Hp), m ≤ 6 → ps.length = m → drawnN b0 pp.sh n ++ ps.map (·.2) = drawnN b0 pp.sh (n + m) → (∀ p ∈ ps, p.1 ∈ pq.gives) → PairsAt H' q ps → HouseAt H' l A [] (hs.set i { pp with owns := drawnN b0 pp.sh (n + m) }) → KeepH l A H H' → Q (.ref q) H'
theorem ok_pairs (T : Txt K mg) : L2.Cl P w K mg base 3 "_law_pairs" ["_law_house", "_law_pools_here", "_law_here", "_law_other", "_law_xs"] spPairs := by
  have C_law_fresh := ok_fresh (P := P) (w := w) (base := base) T
  refine Cl.of T.d_law_pairs sc_law_pairs (fun vs H Q E h => ?_) (fun _ _ _ _ _ _ us hl => match us, hl with | [_, _, _, _, _], _ => rfl) (fun f cdv A' outer s H vs Q E hr h => ?_)
  · obtain ⟨l, pl, x, A, hs, b0, b1, b2, i, j, n, pp, pq, xs, rfl, _⟩ := h
    rfl
  · obtain ⟨l, pl, x, A, hs, b0, b1, b2, i, j, n, pp, pq, xs, rfl, hh, hpl, ⟨hx, hxn⟩, hx6, hxb, ei, ej, hij, hown, hn, hgo, hgl, q⟩ := h
    obtain ⟨qi, eqi⟩ : ∃ q, A[i]? = some q := ⟨A[i]'(by rw [hh.len]; exact (List.getElem?_eq_some_iff.mp ei).1), by simp [hh.len, (List.getElem?_eq_some_iff.mp ei).1]⟩
    obtain ⟨qj, eqj⟩ : ∃ q, A[j]? = some q := ⟨A[j]'(by rw [hh.len]; exact (List.getElem?_eq_some_iff.mp ej).1), by simp [hh.len, (List.getElem?_eq_some_iff.mp ej).1]⟩
    have mi : (A.map fun q => V.ref q.p)[i]? = some (.ref qi.p) := by rw [List.getElem?_map, eqi]; rfl
    have mj : (A.map fun q => V.ref q.p)[j]? = some (.ref qj.p) := by rw [List.getElem?_map, eqj]; rfl
    have Pi := hh.pt i qi pp eqi ei
    have Pj := hh.pt j qj pq eqj ej
    have hx2 : ∀ k : Int, 0 ≤ k → k < 6 → 0 ≤ xs.getD k.toNat 0 ∧ xs.getD k.toNat 0 < 2147483647 := fun k h0 h1 => by
      have hk : k.toNat < xs.length := by omega
      rw [List.getD_eq_getElem?_getD, List.getElem?_eq_getElem hk]
      exact hxb _ (List.getElem_mem hk)
    refine ⟨_, (pss_cons (ps_set (i := 5) sc_law_pairs.nd rfl (Or.inl rfl) (pe_ix ix_list (pv 0) (pv 2) (fun _ _ => rfl)))
      (pss_cons (ps_set (i := 6) sc_law_pairs.nd rfl (Or.inl rfl) (pe_ix ix_list (pe_ix ix_list (pv 0) (pv 3) (fun _ _ => rfl)) pe_int (fun _ _ => rfl)))
      (pss_cons (ps_set (i := 7) sc_law_pairs.nd rfl (Or.inl rfl) (pe_lst pa_nil))
      (pss_cons (ps_for PassesOwn.never rfl (pi_range1 (by rfl) T.n_range (pa_cons (pe_callB (call_min2 rfl) (by rfl) T.n_min boot_min (pa_cons (pe_callB call_len_seq (by rfl) T.n_len PySem.boot_len (pa_cons (pv 6) pa_nil)) (pa_cons (pe_op op_add (pe_op op_mod (pe_ix ix_list (pv 4) pe_int (fun _ _ => rfl)) pe_int) (pe_op op_mul (pe_op op_fdiv (pe_op op_mod (pe_op op_fdiv (pe_ix ix_list (pv 4) pe_int (fun _ _ => rfl)) pe_int) pe_int) pe_int) pe_int)) pa_nil))) pa_nil)) (pg_name (i := 8) sc_law_pairs.nd rfl (Or.inl rfl))
        (pss_cons (ps_set (i := 9) sc_law_pairs.nd rfl (Or.inl rfl) (pe_fn C_law_fresh hr (by rfl) (pa_cons (pv 5) (pa_cons (pe_ix ix_list (pv 1) pe_int (fun _ _ => rfl)) (pa_cons (pe_callB call_len_seq (by rfl) T.n_len PySem.boot_len (pa_cons (pe_ix ix_list (pv 5) pe_int (fun _ _ => rfl)) pa_nil)) pa_nil)))))
        (pss_cons (ps_expr (pe_bm PySem.F.plainAttrs_list PySem.F.slot_list_append PySem.F.type_list_append mt_append (pe_ix ix_list (pv 5) pe_int (fun _ _ => rfl)) (pa_cons (pv 9) pa_nil)))
        (pss_one (ps_expr (pe_bm PySem.F.plainAttrs_list PySem.F.slot_list_append PySem.F.type_list_append mt_append (pv 7) (pa_cons (pe_tup (pa_cons (pe_ix ix_list (pv 6) (pe_op op_mod (pe_op op_add (pe_ix ix_list (pv 4) pe_int (fun _ _ => rfl)) (pe_op op_mul (pv 8) (pe_op op_mod (pe_op op_fdiv (pe_ix ix_list (pv 4) pe_int (fun _ _ => rfl)) pe_int) pe_int))) (pe_callB call_len_seq (by rfl) T.n_len PySem.boot_len (pa_cons (pv 6) pa_nil))) (fun _ _ => rfl)) (pa_cons (pv 9) pa_nil))) pa_nil)))))))
      (pss_one (ps_ret (pe_callTy call_tuple_of (by rfl) T.n_tuple boot_tuple (pa_cons (pv 7) pa_nil)))))))), ?_⟩
    refine ⟨_, rfl, _, rfl, l, _, _, _, rfl, rfl, SqL.of hh.ll, atI_nat mi, ?_⟩
    refine ⟨_, rfl, _, rfl, l, _, _, _, rfl, rfl, SqL.of hh.ll, atI_nat mj, qj.p, _, _, _, rfl, rfl, SqL.of Pj.p, rfl, ?_⟩
    refine ⟨(by show 0 ≤ sizeLine; decide), fun d hd => ?_⟩
    have s1 : Same H (upd H d (.lst [])) := (Same.refl H).new hd
    refine ⟨_, rfl, qj.g, _, rfl, .inl (SqL.of (s1 _ _ Pj.g)), ?_⟩
    refine ⟨_, rfl, x, _, _, _, rfl, rfl, SqL.of (s1 _ _ hx), atI_map V.int xs 0 (by decide) (by omega), _, _, rfl, rfl, (by show (0 : Int) < 4; decide), ?_⟩
    refine ⟨_, rfl, x, _, _, _, rfl, rfl, SqL.of (s1 _ _ hx), atI_map V.int xs 0 (by decide) (by omega), _, _, rfl, rfl, ⟨by decide, by decide⟩, _, _, rfl, rfl, (by show (0 : Int) < 8; decide), _, _, rfl, rfl, ⟨by decide, by decide⟩, _, _, rfl, rfl, .inl ⟨by omega, by omega⟩, _, _, rfl, rfl, ?_⟩
    have hE0 : 0 ≤ xs.getD (2 : Int).toNat 0 % 4 + xs.getD (2 : Int).toNat 0 / 4 % 8 / 7 * 3 := by omega
    have hE1 : xs.getD (2 : Int).toNat 0 % 4 + xs.getD (2 : Int).toNat 0 / 4 % 8 / 7 * 3 ≤ 6 := by omega
    refine ⟨_, _, rfl, ?_⟩
    have hL : ((pq.gives.map V.str).length : Int) = pq.gives.length := by rw [List.length_map]
    have hM0 : 0 ≤ (if xs.getD (2 : Int).toNat 0 % 4 + xs.getD (2 : Int).toNat 0 / 4 % 8 / 7 * 3 < ((pq.gives.map V.str).length : Int) then xs.getD (2 : Int).toNat 0 % 4 + xs.getD (2 : Int).toNat 0 / 4 % 8 / 7 * 3 else ((pq.gives.map V.str).length : Int)) := by split <;> omega
    have hM1 : (if xs.getD (2 : Int).toNat 0 % 4 + xs.getD (2 : Int).toNat 0 / 4 % 8 / 7 * 3 < ((pq.gives.map V.str).length : Int) then xs.getD (2 : Int).toNat 0 % 4 + xs.getD (2 : Int).toNat 0 / 4 % 8 / 7 * 3 else ((pq.gives.map V.str).length : Int)) ≤ 6 := by split <;> omega
    have hM2 : (if xs.getD (2 : Int).toNat 0 % 4 + xs.getD (2 : Int).toNat 0 / 4 % 8 / 7 * 3 < ((pq.gives.map V.str).length : Int) then xs.getD (2 : Int).toNat 0 % 4 + xs.getD (2 : Int).toNat 0 / 4 % 8 / 7 * 3 else ((pq.gives.map V.str).length : Int)) ≤ pq.gives.length := by split <;> omega
    generalize (if xs.getD (2 : Int).toNat 0 % 4 + xs.getD (2 : Int).toNat 0 / 4 % 8 / 7 * 3 < ((pq.gives.map V.str).length : Int) then xs.getD (2 : Int).toNat 0 % 4 + xs.getD (2 : Int).toNat 0 / 4 % 8 / 7 * 3 else ((pq.gives.map V.str).length : Int)) = M at hM0 hM1 hM2 ⊢
    have e0 : hs.set i { pp with owns := drawnN b0 pp.sh (n + 0) } = hs := by
      rw [Nat.add_zero, ← hown]
      obtain ⟨hlt, he⟩ := List.getElem?_eq_some_iff.mp ei
      rw [← he]
      exact List.set_getElem_self hlt
    have hset : ∀ pp' : Pp, (hs.set i pp')[i]? = some pp' := fun pp' => List.getElem?_set_self (List.getElem?_eq_some_iff.mp ei).1
    have hsetj : ∀ pp' : Pp, (hs.set i pp')[j]? = some pq := fun pp' => by rw [List.getElem?_set_ne hij]; exact ej
    refine ⟨_, rfl, (by omega), (by omega), for_range (fun t σ H2 => ∃ (ps : List (Str × Str)) (vs : List V) (v8 v9 : Option V), σ = [some (.ref l), some (.ref pl), some (.int i), some (.int j), some (.ref x), some (.ref qi.p), some (.ref qj.g), some (.ref d), v8, v9] ∧ HouseAt H2 l A [d] (hs.set i { pp with owns := drawnN b0 pp.sh (n + t) }) ∧ KeepH l A H H2 ∧ H2 d = some (.lst vs) ∧ L2.Pairs H2 vs ps ∧ ps.length = t ∧ drawnN b0 pp.sh n ++ ps.map (·.2) = drawnN b0 pp.sh (n + t) ∧ ∀ p ∈ ps, p.1 ∈ pq.gives)
      ⟨[], [], none, none, rfl, by rw [e0]; exact (hh.aside hd).same s1, fun a o _ e => s1 _ _ e, upd_same, .nil, rfl, by simp, fun p hp => by simp at hp⟩ ?_ ?_⟩
    · rintro t σ H2 ht ⟨ps, vs, v8, v9, rfl, h2, k2, hd2, hps, hpl2, hdr, hgv⟩
      have P2 := h2.pt i qi _ eqi (hset _)
      have hot : ((({ pp with owns := drawnN b0 pp.sh (n + t) } : Pp).owns.map V.str).length : Int) = ((n + t : Nat) : Int) := by rw [List.length_map]; show ((drawnN b0 pp.sh (n + t)).length : Int) = _; rw [drawnN_len]
      refine ⟨_, rfl, _, rfl, pl, _, _, _, rfl, rfl, SqL.of (k2 _ _ hpl.n hpl.h), rfl, _, rfl, qi.p, _, _, _, rfl, rfl, SqL.of P2.p, rfl, qi.o, _, rfl, .inl (SqL.of P2.o), ?_⟩
      refine ⟨qi.p, qi.r, qi.o, qi.g, b0, _, pp.sh, rfl, P2.p, hpl.r0.1, hpl.r0.2, by omega, fun H3 s3 => ?_⟩
      rw [hot]
      have P3 := (h2.same s3).pt i qi _ eqi (hset _)
      refine ⟨_, rfl, qi.p, _, _, _, rfl, rfl, SqL.of P3.p, rfl, .inl ⟨rfl, _, SqL.of P3.o⟩, _, rfl, qi.o, _, _, rfl, rfl, P3.o, small1000 (by rw [List.length_map]; show (drawnN b0 pp.sh (n + t)).length ≤ 1000; rw [drawnN_len]; omega), ?_⟩
      have h4 : HouseAt (upd H3 (qi.nth 2) (.lst (({ pp with owns := drawnN b0 pp.sh (n + t) } : Pp).owns.map V.str ++ [.str (nameM b0 ((((n + t : Nat) : Int) + pp.sh) % 24))]))) l A [d] ((hs.set i { pp with owns := drawnN b0 pp.sh (n + t) }).set i { pp with owns := drawnN b0 pp.sh (n + (t + 1)) }) := by
        refine (h2.same s3).put eqi (hset _) (by omega) (fun H' eH TT KK o4 => ?_) ⟨_, P3.o⟩
        obtain ⟨rv, r1, r2⟩ := P3.r
        refine ⟨(o4 0 (by omega) (by omega)).trans P3.p, ⟨rv, (o4 1 (by omega) (by omega)).trans r1, Paired.mapP r2 fun _ _ y => y.keep TT fun a as ha hv => ⟨KK a as ha hv, ha⟩⟩, ?_, (o4 3 (by omega) (by omega)).trans P3.g⟩
        rw [eH]
        show upd H3 qi.o _ qi.o = _
        rw [upd_same]
        show _ = some (HO.lst ((drawnN b0 pp.sh (n + t + 1)).map V.str))
        rw [drawnN_succ, List.map_append]
        rfl
      rw [List.set_set] at h4
      have T4 : Tups H3 (upd H3 qi.o (.lst (({ pp with owns := drawnN b0 pp.sh (n + t) } : Pp).owns.map V.str ++ [.str (nameM b0 ((((n + t : Nat) : Int) + pp.sh) % 24))]))) := Tups.lst P3.o
      have k4 : KeepH l A H (upd H3 qi.o (.lst (({ pp with owns := drawnN b0 pp.sh (n + t) } : Pp).owns.map V.str ++ [.str (nameM b0 ((((n + t : Nat) : Int) + pp.sh) % 24))]))) := fun a o ha e => by
        have hne : a ≠ qi.o := fun z => ha (Or.inr (Or.inr ⟨i, qi, 2, eqi, by omega, z.symm⟩))
        rw [upd_ne hne]
        exact s3 _ _ (k2 a o ha e)
      have hd4 : upd H3 qi.o (.lst (({ pp with owns := drawnN b0 pp.sh (n + t) } : Pp).owns.map V.str ++ [.str (nameM b0 ((((n + t : Nat) : Int) + pp.sh) % 24))])) d = some (.lst vs) := by
        have hne : d ≠ qi.o := ((h2.xl d List.mem_cons_self).2 i qi 2 eqi (by omega)).symm
        rw [upd_ne hne]
        exact s3 _ _ hd2
      have h4' : HouseAt (upd H3 qi.o (.lst (({ pp with owns := drawnN b0 pp.sh (n + t) } : Pp).owns.map V.str ++ [.str (nameM b0 ((((n + t : Nat) : Int) + pp.sh) % 24))]))) l A [d] (hs.set i { pp with owns := drawnN b0 pp.sh (n + (t + 1)) }) := h4
      have ps4 : L2.Pairs (upd H3 qi.o (.lst (({ pp with owns := drawnN b0 pp.sh (n + t) } : Pp).owns.map V.str ++ [.str (nameM b0 ((((n + t : Nat) : Int) + pp.sh) % 24))]))) vs ps := hps.mono (s3.tups.trans T4)
      clear h4
      generalize upd H3 qi.o (.lst (({ pp with owns := drawnN b0 pp.sh (n + t) } : Pp).owns.map V.str ++ [.str (nameM b0 ((((n + t : Nat) : Int) + pp.sh) % 24))])) = H4 at T4 k4 hd4 h4' ps4 ⊢
      have Pj4 := h4'.pt j qj pq eqj (hsetj _)
      have hgp : 0 < ((pq.gives.map V.str).length : Int) := by rw [hL]; omega
      obtain ⟨x30, x31⟩ := hx2 3 (by decide) (by decide)
      have hid0 : 0 ≤ (xs.getD (3 : Int).toNat 0 + (0 + (t : Int)) * (xs.getD (3 : Int).toNat 0 / 7 % 2)) % ((pq.gives.map V.str).length : Int) := Int.emod_nonneg _ (by omega)
      have hid1 : (xs.getD (3 : Int).toNat 0 + (0 + (t : Int)) * (xs.getD (3 : Int).toNat 0 / 7 % 2)) % ((pq.gives.map V.str).length : Int) < (pq.gives.length : Int) := by rw [← hL]; exact Int.emod_lt_of_pos _ hgp
      refine ⟨_, rfl, .inl ⟨rfl, _, SqL.of hd4⟩, _, rfl, _, rfl, x, _, _, _, rfl, rfl, SqL.of (k4 _ _ hxn hx), atI_map V.int xs 0 (by decide) (by omega), ?_⟩
      refine ⟨_, rfl, _, rfl, x, _, _, _, rfl, rfl, SqL.of (k4 _ _ hxn hx), atI_map V.int xs 0 (by decide) (by omega), _, _, rfl, rfl, ⟨by decide, by decide⟩, _, _, rfl, rfl, (by show (0 : Int) < 2; decide), _, _, rfl, rfl, .inl ⟨by omega, by omega⟩, _, _, rfl, rfl, ?_⟩
      refine ⟨_, rfl, qj.g, _, rfl, .inl (SqL.of Pj4.g), _, _, rfl, rfl, hgp, qj.g, _, _, _, rfl, rfl, SqL.of Pj4.g, atI_map V.str pq.gives "" hid0 hid1, _, rfl, (by show 2 ≤ sizeLine; decide), fun tp htp => ?_⟩
      have s5 : Same H4 (upd H4 tp (.tup [.str (pq.gives.getD ((xs.getD (3 : Int).toNat 0 + (0 + (t : Int)) * (xs.getD (3 : Int).toNat 0 / 7 % 2)) % ((pq.gives.map V.str).length : Int)).toNat ""), .str (nameM b0 ((((n + t : Nat) : Int) + pp.sh) % 24))])) := (Same.refl H4).new htp
      refine ⟨d, _, _, rfl, rfl, s5 _ _ hd4, small1000 (by rw [Paired.length ps4, hpl2]; omega), ?_⟩
      have hdt : tp ≠ d := fun z => by rw [z, hd4] at htp; cases htp
      have T6 := s5.tups.trans (Tups.lst (ys := vs ++ [.ref tp]) (s5 _ _ hd4))
      refine ⟨ps ++ [(pq.gives.getD ((xs.getD (3 : Int).toNat 0 + (0 + (t : Int)) * (xs.getD (3 : Int).toNat 0 / 7 % 2)) % ((pq.gives.map V.str).length : Int)).toNat "", nameM b0 ((((n + t : Nat) : Int) + pp.sh) % 24))], vs ++ [.ref tp], _, _, rfl, (h4'.same s5).other List.mem_cons_self (s5 _ _ hd4), fun a o ha e => ?_, upd_same, Paired.snoc (ps4.mono T6) ⟨tp, rfl, ?_, ?_, ?_⟩, by rw [List.length_append, hpl2]; rfl, ?_, fun p hp => ?_⟩
      · rw [upd_ne (fun z => by rw [z, hd] at e; cases e)]
        exact s5 _ _ (k4 a o ha e)
      · rw [upd_ne hdt, upd_same]
      · have hlt : ((xs.getD (3 : Int).toNat 0 + (0 + (t : Int)) * (xs.getD (3 : Int).toNat 0 / 7 % 2)) % ((pq.gives.map V.str).length : Int)).toNat < pq.gives.length := by omega
        rw [List.getD_eq_getElem?_getD, List.getElem?_eq_getElem hlt]
        exact hgo _ (List.getElem_mem hlt)
      · exact nameM_ok hpl.r0.1
      · rw [List.map_append, ← List.append_assoc, hdr, ← Nat.add_assoc, drawnN_succ]; rfl
      · rcases List.mem_append.mp hp with z | z
        · exact hgv p z
        · rw [List.mem_singleton.mp z]
          have hlt : ((xs.getD (3 : Int).toNat 0 + (0 + (t : Int)) * (xs.getD (3 : Int).toNat 0 / 7 % 2)) % ((pq.gives.map V.str).length : Int)).toNat < pq.gives.length := by omega
          show pq.gives.getD _ "" ∈ _
          rw [List.getD_eq_getElem?_getD, List.getElem?_eq_getElem hlt]
          exact List.getElem_mem hlt
    · rintro σ H2 ⟨ps, vs, v8, v9, rfl, h2, k2, hd2, hps, hpl2, hdr, hgv⟩
      refine ⟨_, rfl, d, _, rfl, .inl ⟨SqL.of hd2, fun b gb => ?_⟩⟩
      have s3 : Same H2 (upd H2 b (.tup vs)) := (Same.refl H2).new gb
      exact q M.toNat ps b _ (by omega) hpl2 hdr hgv ⟨⟨vs, upd_same, hps.mono s3.tups⟩, by omega⟩ ((h2.same s3).back) (fun a o ha e => s3 _ _ (k2 a o ha e))
def spPools (K : PySem.W.Frag) : Sp := fun vs H Q _ => ∃ (a : Addr) (ns : List Int), vs = [.ref a] ∧ SqL K H a (ns.map V.int) ∧ ∀ (l : Addr) (b0 b1 b2 : Int) (H' : Hp), Same H H' → H l = none → H' l = some (.lst [.int b0, .int b1, .int b2]) → (0 ≤ b0 ∧ b0 < 2147483647) → (0 ≤ b1 ∧ b1 < 2147483647) → (0 ≤ b2 ∧ b2 < 2147483647) → Q (.ref l) H'
theorem pick2 (x y : Int) {k : Int} (h0 : 0 ≤ k) (h1 : k < 2) : atI [V.int x, V.int y] k = some (V.int (if k = 0 then x else y)) := by
  have : k = 0 ∨ k = 1 := by omega
  rcases this with rfl | rfl <;> rfl
theorem ok_pools (T : Txt K mg) : L2.Cl P w K mg base 3 "_law_pools" ["_law_script"] (spPools K) := by
  have C_law_cell_at := ok_cell (P := P) (w := w) (base := base) T
  have C_law_pool := ok_pool (P := P) (w := w) (base := base) T
  refine Cl.of T.d_law_pools sc_law_pools (fun vs H Q E h => ?_) (fun _ _ _ _ _ _ us hl => match us, hl with | [_], _ => rfl) (fun f cdv A outer s H vs Q E hr h => ?_)
  · obtain ⟨a, ns, rfl, _⟩ := h
    rfl
  · obtain ⟨a, ns, rfl, hS, q⟩ := h
    refine ⟨_, (pss_cons (ps_set (i := 1) sc_law_pools.nd rfl (Or.inl rfl) (pe_fn C_law_cell_at hr (by rfl) (pa_cons (pv 0) (pa_cons pe_int pa_nil))))
      (pss_cons (ps_set (i := 2) sc_law_pools.nd rfl (Or.inl rfl) (pe_fn C_law_pool hr (by rfl) (pa_cons (pv 0) (pa_cons pe_int pa_nil))))
      (pss_cons (ps_set (i := 3) sc_law_pools.nd rfl (Or.inl rfl) (pe_fn C_law_pool hr (by rfl) (pa_cons (pv 0) (pa_cons pe_int pa_nil))))
      (pss_one (ps_ret (pe_lst (pa_cons (pv 2) (pa_cons (pe_ix ix_list (pe_lst (pa_cons (pv 2) (pa_cons (pv 3) pa_nil))) (pe_op op_mod (pe_op op_fdiv (pv 1) pe_int) pe_int) (fun _ _ => rfl)) (pa_cons (pe_ix ix_list (pe_lst (pa_cons (pv 2) (pa_cons (pv 3) pa_nil))) (pe_op op_mod (pe_op op_fdiv (pv 1) pe_int) pe_int) (fun _ _ => rfl)) pa_nil))))))))), ?_⟩
    refine ⟨_, rfl, a, ns, 0, rfl, hS, (by decide), fun c => ?_⟩
    refine ⟨_, rfl, a, ns, 1, rfl, hS, (by decide), fun x hx0 hx1 => ?_⟩
    refine ⟨_, rfl, a, ns, 2, rfl, hS, (by decide), fun y hy0 hy1 => ?_⟩
    refine ⟨_, rfl, _, rfl, _, rfl, (by show 2 ≤ sizeLine; decide), fun u hu => ?_⟩
    refine ⟨_, rfl, _, _, rfl, rfl, ⟨by decide, by decide⟩, _, _, rfl, rfl, (by show (0 : Int) < 2; decide), u, _, _, _, rfl, rfl, SqL.of upd_same, pick2 x y (by omega) (by omega), ?_⟩
    refine ⟨_, rfl, _, rfl, (by show 2 ≤ sizeLine; decide), fun v hv => ?_⟩
    refine ⟨_, rfl, _, _, rfl, rfl, ⟨by decide, by decide⟩, _, _, rfl, rfl, (by show (0 : Int) < 2; decide), v, _, _, _, rfl, rfl, SqL.of upd_same, pick2 x y (by omega) (by omega), ?_⟩
    refine ⟨(by show 3 ≤ sizeLine; decide), fun l hl => ?_⟩
    have s2 := (((Same.refl H).new (o := .lst [.int x, .int y]) hu).new (o := .lst [.int x, .int y]) hv)
    refine q l _ _ _ _ (s2.new hl) (s2.free hl) upd_same ⟨hx0, hx1⟩ ?_ ?_
    · split <;> constructor <;> assumption
    · split <;> constructor <;> assumption
theorem inV_strs (x : Str) : ∀ l : List Str, inV (.str x) (l.map V.str) = decide (x ∈ l)
  | [] => by simp [inV]
  | a :: r => by
    have ih := inV_strs x r
    unfold inV at ih ⊢
    rw [List.map_cons, List.any_cons, ih]
    by_cases e : a = x
    · subst e; simp [eqV]
    · have h2 : ¬ x = a := fun z => e z.symm
      simp [eqV, e, h2]
theorem flat_strs (l : List Str) : (l.map V.str).all flatV = true := by
  induction l with
  | nil => rfl
  | cons a r ih => rw [List.map_cons, List.all_cons, ih]; rfl
theorem xs_rng {xs : List Int} (h6 : xs.length = 6) (hb : Bnd xs) (k : Int) (h0 : 0 ≤ k) (h1 : k < 6) : 0 ≤ xs.getD k.toNat 0 ∧ xs.getD k.toNat 0 < 2147483647 := by
  have hk : k.toNat < xs.length := by omega
  rw [List.getD_eq_getElem?_getD, List.getElem?_eq_getElem hk]
  exact hb _ (List.getElem_mem hk)
def spSum : Sp := fun vs H Q _ => ∃ (o x : Addr) (ws : List Str) (xs : List Int), vs = [.ref o, .ref x] ∧ H o = some (.lst (ws.map V.str)) ∧ (∀ y ∈ ws, NameOk y) ∧ H x = some (.lst (xs.map V.int)) ∧ xs.length = 6 ∧ Bnd xs ∧
  ∀ (t : Addr) (ts : List (Int × Th)) (H' : Hp), Same H H' → TermsAt H' t ts → SumOk ts → (∀ d ∈ ts, ∀ y, d.2 = Th.nam y → y ∈ ws) → Q (.ref t) H'
theorem sgn_at (t n : Int) (h0 : 0 ≤ t) : atI [V.int 1, V.int 1, V.int (-1)] ((if (1 : Int) < t then 1 else t) * (1 + n / 7 % 2)) = some (.int (if t = 0 then 1 else if n / 7 % 2 = 0 then 1 else -1)) := by
  have h7 : n / 7 % 2 = 0 ∨ n / 7 % 2 = 1 := by omega
  by_cases e : t = 0
  · subst e
    rcases h7 with z | z <;> rw [z] <;> rfl
  · have : (if (1 : Int) < t then 1 else t) = 1 := by split <;> omega
    rw [this, if_neg e]
    rcases h7 with z | z <;> rw [z] <;> rfl
theorem gen_gName {i : Nat} {σ : L2.St} {H : Hp} {Q : L2.St → Hp → Prop} (C : Int → Prop) (k0 : Int) (h0 : C k0) (h : ∀ kd : Int, C kd → gName i (V.int kd) σ H Q) : gName i (V.int k0) σ H Q := h k0 h0
theorem sum_leaf {H H2 H5 : Hp} {o x l tp : Addr} {ws : List Str} {vs : List V} {ts : List (Int × Th)} {i : Nat} {n : Int} {a b c : Option V} (hl : H l = none) (s2 : Same H H2) (hl2 : H2 l = some (.lst vs)) (hts : Terms H2 vs ts) (hlen : ts.length = i) (hsg : ∀ d ∈ ts, d.1 = 1 ∨ d.1 = -1) (hhd : ∀ d, ts.head? = some d → d.1 = 1) (hth : ∀ d ∈ ts, ThOk d.2) (hnm : ∀ d ∈ ts, ∀ y, d.2 = Th.nam y → y ∈ ws)
    (s5 : Same H2 H5) {th : Th} (htp : H5 tp = some (.tup [.int (if (i : Int) = 0 then 1 else if n / 7 % 2 = 0 then 1 else -1), thV th])) (hok : ThOk th) (hin : ∀ y, th = .nam y → y ∈ ws) :
    ∃ (vs' : List V) (ts' : List (Int × Th)) (v3 v4 v5 : Option V), [some (V.ref o), some (V.ref x), some (V.ref l), a, b, c] = [some (.ref o), some (.ref x), some (.ref l), v3, v4, v5] ∧ Same H (upd H5 l (.lst (vs ++ [.ref tp]))) ∧ upd H5 l (.lst (vs ++ [.ref tp])) l = some (.lst vs') ∧ Terms (upd H5 l (.lst (vs ++ [.ref tp]))) vs' ts' ∧ ts'.length = i + 1 ∧ (∀ d ∈ ts', d.1 = 1 ∨ d.1 = -1) ∧ (∀ d, ts'.head? = some d → d.1 = 1) ∧ (∀ d ∈ ts', ThOk d.2) ∧ (∀ d ∈ ts', ∀ y, d.2 = Th.nam y → y ∈ ws) := by
  have h5l := s5 _ _ hl2
  have T : Tups H2 (upd H5 l (.lst (vs ++ [.ref tp]))) := s5.tups.trans (Tups.lst h5l)
  have hne : tp ≠ l := fun z => by rw [z, h5l] at htp; cases htp
  have hsn : (if (i : Int) = 0 then (1 : Int) else if n / 7 % 2 = 0 then 1 else -1) = 1 ∨ (if (i : Int) = 0 then (1 : Int) else if n / 7 % 2 = 0 then 1 else -1) = -1 := by
    split
    · exact .inl rfl
    · split
      · exact .inl rfl
      · exact .inr rfl
  refine ⟨vs ++ [.ref tp], ts ++ [((if (i : Int) = 0 then 1 else if n / 7 % 2 = 0 then 1 else -1), th)], a, b, c, rfl, (s2.trans s5).put hl, upd_same, Paired.snoc (hts.mono T) ⟨tp, rfl, by rw [upd_ne hne]; exact htp, hok⟩, by rw [List.length_append, hlen]; rfl, fun d hd => ?_, fun d hd => ?_, fun d hd => ?_, fun d hd => ?_⟩
  · rcases List.mem_append.mp hd with z | z
    · exact hsg d z
    · rw [List.mem_singleton.mp z]; exact hsn
  · cases ts with
    | nil =>
      simp only [List.nil_append, List.head?_cons, Option.some.injEq] at hd
      rw [← hd, ← hlen]
      rfl
    | cons p r => exact hhd d hd
  · rcases List.mem_append.mp hd with z | z
    · exact hth d z
    · rw [List.mem_singleton.mp z]; exact hok
  · rcases List.mem_append.mp hd with z | z
    · exact hnm d z
    · rw [List.mem_singleton.mp z]; exact hin
theorem ok_sum (T : Txt K mg) : L2.Cl P w K mg base 1 "_law_sum" ["_law_owns", "_law_xs"] spSum := by
  refine Cl.of T.d_law_sum sc_law_sum (fun vs H Q E h => ?_) (fun _ _ _ _ _ _ us hl => match us, hl with | [_, _], _ => rfl) (fun f cdv A outer s H vs Q E hr h => ?_)
  · obtain ⟨o, x, ws, xs, rfl, _⟩ := h
    rfl
  · obtain ⟨o, x, ws, xs, rfl, ho, hws, hx, h6, hb, q⟩ := h
    have hu0 := Nat.lt_of_succ_lt (hu_of hr)
    have R := xs_rng h6 hb
    refine ⟨_, (pss_cons (ps_set (i := 2) sc_law_sum.nd rfl (Or.inl rfl) (pe_lst pa_nil))
      (pss_cons (ps_for PassesOwn.never rfl (pi_range1 (by rfl) T.n_range (pa_cons (pe_op op_add (pe_op op_add pe_int (pe_op op_mod (pe_op op_fdiv (pe_ix ix_list (pv 1) pe_int (fun _ _ => rfl)) pe_int) pe_int)) (pe_op op_mul (pe_op op_fdiv (pe_op op_mod (pe_op op_fdiv (pe_ix ix_list (pv 1) pe_int (fun _ _ => rfl)) pe_int) pe_int) pe_int) pe_int)) pa_nil)) (pg_name (i := 3) sc_law_sum.nd rfl (Or.inl rfl))
        (pss_cons (ps_set (i := 4) sc_law_sum.nd rfl (Or.inl rfl) (pe_op op_mod (pe_op op_mul (pe_op op_add (pe_ix ix_list (pv 1) pe_int (fun _ _ => rfl)) (pe_op op_mul (pe_op op_mul pe_int (pv 3)) (pv 3))) (pe_op op_add (pe_ix ix_list (pv 1) pe_int (fun _ _ => rfl)) (pv 3))) pe_int))
        (pss_cons (ps_set (i := 5) sc_law_sum.nd rfl (Or.inl rfl) (pe_op op_mod (pv 4) pe_int))
        (pss_cons (ps_if (pt_cmpR op_eq (pe_op op_mod (pe_op op_fdiv (pv 4) pe_int) pe_int) pe_int (nomark _))
          (pss_one (ps_set (i := 5) sc_law_sum.nd rfl (Or.inl rfl) (pe_op op_mod (pe_op op_mul (pe_op op_mul (pe_op op_mul (pe_op op_mul (pe_op op_mul (pe_op op_add (pv 4) pe_int) (pe_ix ix_list (pv 1) pe_int (fun _ _ => rfl))) (pe_ix ix_list (pv 1) pe_int (fun _ _ => rfl))) (pe_ix ix_list (pv 1) pe_int (fun _ _ => rfl))) (pe_ix ix_list (pv 1) pe_int (fun _ _ => rfl))) (pe_ix ix_list (pv 1) pe_int (fun _ _ => rfl))) (pe_op op_pow pe_int pe_int)))) pss_nil)
        (pss_cons (ps_if (PW.pt (pw_and (pt_cmpR (op_neL_nil hu0) (pv 0) (pe_lst pa_nil) (nomark _)) (pw_and1 (pt_cmpR op_gt (pe_op op_mod (pe_op op_fdiv (pv 4) pe_int) pe_int) pe_int (nomark _)))))
          (pss_one (ps_set (i := 5) sc_law_sum.nd rfl (Or.inl rfl) (pe_ix ix_list (pv 0) (pe_op op_mod (pe_op op_fdiv (pv 4) pe_int) (pe_callB call_len_seq (by rfl) T.n_len PySem.boot_len (pa_cons (pv 0) pa_nil))) (fun _ _ => rfl)))) pss_nil)
        (pss_one (ps_expr (pe_bm PySem.F.plainAttrs_list PySem.F.slot_list_append PySem.F.type_list_append mt_append (pv 2) (pa_cons (pe_tup (pa_cons (pe_ix ix_list (pe_lst (pa_cons pe_int (pa_cons pe_int (pa_cons (pe_un un_neg pe_int) pa_nil)))) (pe_op op_mul (pe_callB (call_min2 rfl) (by rfl) T.n_min boot_min (pa_cons (pv 3) (pa_cons pe_int pa_nil))) (pe_op op_add pe_int (pe_op op_mod (pe_op op_fdiv (pv 4) pe_int) pe_int))) (fun _ _ => rfl)) (pa_cons (pv 5) pa_nil))) pa_nil)))))))))
      (pss_one (ps_ret (pe_callTy call_tuple_of (by rfl) T.n_tuple boot_tuple (pa_cons (pv 2) pa_nil)))))), ?_⟩
    refine ⟨(by show 0 ≤ sizeLine; decide), fun l hl => ?_⟩
    have s1 : Same H (upd H l (.lst [])) := (Same.refl H).new hl
    refine ⟨_, rfl, x, _, _, _, rfl, rfl, SqL.of (s1 _ _ hx), atI_map V.int xs 0 (by decide) (by omega), _, _, rfl, rfl, ⟨by decide, by decide⟩, _, _, rfl, rfl, (by show (0 : Int) < 3; decide), _, _, rfl, rfl, ?_⟩
    refine ⟨_, rfl, x, _, _, _, rfl, rfl, SqL.of (s1 _ _ hx), atI_map V.int xs 0 (by decide) (by omega), _, _, rfl, rfl, ⟨by decide, by decide⟩, _, _, rfl, rfl, (by show (0 : Int) < 4; decide), _, _, rfl, rfl, ⟨by decide, by decide⟩, _, _, rfl, rfl, .inl ⟨by omega, by omega⟩, _, _, rfl, rfl, ?_⟩
    have hM0 : 1 ≤ 1 + xs.getD (1 : Int).toNat 0 / 4 % 3 + xs.getD (1 : Int).toNat 0 / 12 % 4 / 3 * 3 := by omega
    have hM1 : 1 + xs.getD (1 : Int).toNat 0 / 4 % 3 + xs.getD (1 : Int).toNat 0 / 12 % 4 / 3 * 3 ≤ 6 := by omega
    generalize 1 + xs.getD (1 : Int).toNat 0 / 4 % 3 + xs.getD (1 : Int).toNat 0 / 12 % 4 / 3 * 3 = M at hM0 hM1 ⊢
    refine ⟨_, rfl, (by omega), (by omega), for_range (fun i σ H2 => ∃ (vs : List V) (ts : List (Int × Th)) (v3 v4 v5 : Option V), σ = [some (.ref o), some (.ref x), some (.ref l), v3, v4, v5] ∧ Same H H2 ∧ H2 l = some (.lst vs) ∧ Terms H2 vs ts ∧ ts.length = i ∧ (∀ d ∈ ts, d.1 = 1 ∨ d.1 = -1) ∧ (∀ d, ts.head? = some d → d.1 = 1) ∧ (∀ d ∈ ts, ThOk d.2) ∧ (∀ d ∈ ts, ∀ y, d.2 = Th.nam y → y ∈ ws))
      ⟨[], [], none, none, none, rfl, s1, upd_same, .nil, rfl, fun d hd => by simp at hd, fun d hd => by simp at hd, fun d hd => by simp at hd, fun d hd => by simp at hd⟩ ?_ ?_⟩
    · rintro i σ H2 hi ⟨vs, ts, v3, v4, v5, rfl, s2, hl2, hts, hlen, hsg, hhd, hth, hnm⟩
      rw [Int.zero_add]
      have hi6 : (i : Int) ≤ 5 := by omega
      have hi0 : (0 : Int) ≤ i := by omega
      have r2 := R 2 (by decide) (by decide)
      have r3 := R 3 (by decide) (by decide)
      have hii0 : 0 ≤ 613 * (i : Int) * i := Int.mul_nonneg (by omega) hi0
      have hii1 : 613 * (i : Int) * i ≤ 613 * 5 * 5 := Int.mul_le_mul (by omega) hi6 hi0 (by decide)
      have hx2 := s2 _ _ hx
      have ho2 := s2 _ _ ho
      refine ⟨_, rfl, x, _, _, _, rfl, rfl, SqL.of hx2, atI_map V.int xs 0 (by decide) (by omega), _, rfl, _, _, rfl, rfl, .inl ⟨by omega, by omega⟩, _, rfl, _, _, rfl, rfl, .inl ⟨by omega, by omega⟩, _, _, rfl, rfl, ?_⟩
      refine ⟨_, rfl, x, _, _, _, rfl, rfl, SqL.of hx2, atI_map V.int xs 0 (by decide) (by omega), _, rfl, _, _, rfl, rfl, _, _, rfl, rfl, .inl ⟨by omega, by omega⟩, _, _, rfl, rfl, (by show (0 : Int) < 2147483629; decide), ?_⟩
      show gName 4 (V.int ((xs.getD (2 : Int).toNat 0 + 613 * (i : Int) * i) * (xs.getD (3 : Int).toNat 0 + i) % 2147483629)) _ _ _
      obtain ⟨n, hn0, hn1, hne⟩ : ∃ n : Int, 0 ≤ n ∧ n < 2147483629 ∧ (xs.getD (2 : Int).toNat 0 + 613 * (i : Int) * i) * (xs.getD (3 : Int).toNat 0 + i) % 2147483629 = n := ⟨_, by omega, by omega, rfl⟩
      rw [hne]
      clear hne
      refine ⟨_, rfl, _, _, rfl, rfl, (by show (0 : Int) < 10; decide), ?_⟩
      refine ⟨_, rfl, _, _, rfl, rfl, ⟨by decide, by decide⟩, _, _, rfl, rfl, (by show (0 : Int) < 4; decide), rfl, _, rfl, ite2I (fun e1 => ?_) (fun e1 => ?_)⟩
      · have r0 := R 0 (by decide) (by decide)
        have r1 := R 1 (by decide) (by decide)
        have r4 := R 4 (by decide) (by decide)
        have r5 := R 5 (by decide) (by decide)
        refine ⟨_, rfl, _, _, rfl, rfl, _, rfl, x, _, _, _, rfl, rfl, SqL.of hx2, atI_map V.int xs 0 (by decide) (by omega), _, _, rfl, rfl, .inr ⟨by omega, by omega⟩, ?_⟩
        refine ⟨_, rfl, x, _, _, _, rfl, rfl, SqL.of hx2, atI_map V.int xs 0 (by decide) (by omega), _, _, rfl, rfl, .inr ⟨by omega, by omega⟩, ?_⟩
        refine ⟨_, rfl, x, _, _, _, rfl, rfl, SqL.of hx2, atI_map V.int xs 0 (by decide) (by omega), _, _, rfl, rfl, .inr ⟨by omega, by omega⟩, ?_⟩
        refine ⟨_, rfl, x, _, _, _, rfl, rfl, SqL.of hx2, atI_map V.int xs 0 (by decide) (by omega), _, _, rfl, rfl, .inr ⟨by omega, by omega⟩, ?_⟩
        refine ⟨_, rfl, x, _, _, _, rfl, rfl, SqL.of hx2, atI_map V.int xs 0 (by decide) (by omega), _, _, rfl, rfl, .inr ⟨by omega, by omega⟩, ?_⟩
        refine ⟨_, _, rfl, rfl, ⟨by decide, by decide, by decide⟩, _, _, rfl, rfl, (by show (0 : Int) < 10 ^ (60 : Int).toNat; decide), ?_⟩
        refine gen_gName (fun m => 0 ≤ m ∧ m < 10 ^ 60) _ ⟨Int.emod_nonneg _ (by decide), Int.emod_lt_of_pos _ (by decide)⟩ (fun m hm => ?_)
        refine ⟨_, rfl, (by show 0 ≤ sizeLine; decide), fun e he => ?_⟩
        have s3 : Same H2 (upd H2 e (.lst [])) := (Same.refl H2).new he
        refine ⟨o, e, _, rfl, rfl, SqL.of (s3 _ _ ho2), SqL.of upd_same, _, rfl, ?_⟩
        refine ite2 (fun c1 => ?_) (fun c1 => ?_)
        · have hwl : 0 < ((ws.map V.str).length : Int) := by
            cases ws with
            | nil => exact absurd c1 (by decide)
            | cons a r => rw [List.length_map, List.length_cons]; omega
          refine ⟨_, rfl, _, _, rfl, rfl, ⟨by decide, by decide⟩, _, _, rfl, rfl, (by show (0 : Int) < 4; decide), _, _, rfl, rfl, _, rfl, ?_⟩
          refine ite2 (fun c2 => ?_) (fun c2 => ?_)
          · have hL : ((ws.map V.str).length : Int) = ws.length := by rw [List.length_map]
            have hd0 : 0 ≤ n / 40 % ((ws.map V.str).length : Int) := Int.emod_nonneg _ (by omega)
            have hd1 : n / 40 % ((ws.map V.str).length : Int) < (ws.length : Int) := by rw [← hL]; exact Int.emod_lt_of_pos _ hwl
            refine ⟨_, rfl, _, rfl, _, _, rfl, rfl, ⟨by decide, by decide⟩, _, rfl, o, _, rfl, .inl (SqL.of (s3 _ _ ho2)), _, _, rfl, rfl, hwl, o, _, _, _, rfl, rfl, SqL.of (s3 _ _ ho2), atI_map V.str ws "" hd0 hd1, ?_⟩
            have hym : ws.getD (n / 40 % ((ws.map V.str).length : Int)).toNat "" ∈ ws := by
              have hlt : (n / 40 % ((ws.map V.str).length : Int)).toNat < ws.length := by omega
              rw [List.getD_eq_getElem?_getD, List.getElem?_eq_getElem hlt]
              exact List.getElem_mem hlt
            generalize ws.getD (n / 40 % ((ws.map V.str).length : Int)).toNat "" = y at hym ⊢
            refine ⟨_, rfl, .inl ⟨rfl, _, SqL.of (s3 _ _ hl2)⟩, _, rfl, (by show 3 ≤ sizeLine; decide), fun g hg => ?_⟩
            have s4 : Same H2 (upd (upd H2 e (.lst [])) g (.lst [.int 1, .int 1, .int (-1)])) := (s3).new hg
            refine ⟨_, rfl, _, _, rfl, _, rfl, _, _, rfl, rfl, ⟨by decide, by decide⟩, _, _, rfl, rfl, (by show (0 : Int) < 2; decide), _, _, rfl, rfl, _, _, rfl, rfl, .inl ⟨by split <;> omega, by split <;> omega⟩, g, _, _, _, rfl, rfl, SqL.of upd_same, sgn_at i n hi0, ?_⟩
            refine ⟨_, rfl, (by show 2 ≤ sizeLine; decide), fun tp htp => ?_⟩
            have s5 := s4.new (o := .tup [.int (if (i : Int) = 0 then 1 else if n / 7 % 2 = 0 then 1 else -1), thV (.nam y)]) htp
            refine ⟨l, _, _, rfl, rfl, s5 _ _ hl2, small1000 (by rw [Paired.length hts, hlen]; omega), ?_⟩
            exact sum_leaf hl s2 hl2 hts hlen hsg hhd hth hnm s5 upd_same (th := .nam y) (hws y hym) (fun z ez => by cases ez; exact hym)
          · refine ⟨_, rfl, .inl ⟨rfl, _, SqL.of (s3 _ _ hl2)⟩, _, rfl, (by show 3 ≤ sizeLine; decide), fun g hg => ?_⟩
            have s4 : Same H2 (upd (upd H2 e (.lst [])) g (.lst [.int 1, .int 1, .int (-1)])) := (s3).new hg
            refine ⟨_, rfl, _, _, rfl, _, rfl, _, _, rfl, rfl, ⟨by decide, by decide⟩, _, _, rfl, rfl, (by show (0 : Int) < 2; decide), _, _, rfl, rfl, _, _, rfl, rfl, .inl ⟨by split <;> omega, by split <;> omega⟩, g, _, _, _, rfl, rfl, SqL.of upd_same, sgn_at i n hi0, ?_⟩
            refine ⟨_, rfl, (by show 2 ≤ sizeLine; decide), fun tp htp => ?_⟩
            have s5 := s4.new (o := .tup [.int (if (i : Int) = 0 then 1 else if n / 7 % 2 = 0 then 1 else -1), thV (.num m)]) htp
            refine ⟨l, _, _, rfl, rfl, s5 _ _ hl2, small1000 (by rw [Paired.length hts, hlen]; omega), ?_⟩
            exact sum_leaf hl s2 hl2 hts hlen hsg hhd hth hnm s5 upd_same (th := .num m) hm (fun z ez => by cases ez)
        · refine iteF ?_
          refine ⟨_, rfl, .inl ⟨rfl, _, SqL.of (s3 _ _ hl2)⟩, _, rfl, (by show 3 ≤ sizeLine; decide), fun g hg => ?_⟩
          have s4 : Same H2 (upd (upd H2 e (.lst [])) g (.lst [.int 1, .int 1, .int (-1)])) := (s3).new hg
          refine ⟨_, rfl, _, _, rfl, _, rfl, _, _, rfl, rfl, ⟨by decide, by decide⟩, _, _, rfl, rfl, (by show (0 : Int) < 2; decide), _, _, rfl, rfl, _, _, rfl, rfl, .inl ⟨by split <;> omega, by split <;> omega⟩, g, _, _, _, rfl, rfl, SqL.of upd_same, sgn_at i n hi0, ?_⟩
          refine ⟨_, rfl, (by show 2 ≤ sizeLine; decide), fun tp htp => ?_⟩
          have s5 := s4.new (o := .tup [.int (if (i : Int) = 0 then 1 else if n / 7 % 2 = 0 then 1 else -1), thV (.num m)]) htp
          refine ⟨l, _, _, rfl, rfl, s5 _ _ hl2, small1000 (by rw [Paired.length hts, hlen]; omega), ?_⟩
          exact sum_leaf hl s2 hl2 hts hlen hsg hhd hth hnm s5 upd_same (th := .num m) hm (fun z ez => by cases ez)
      · have hm : 0 ≤ n % 10 ∧ n % 10 < 10 ^ 60 := ⟨by omega, Int.lt_of_lt_of_le (show n % 10 < 10 by omega) (by decide)⟩
        show tNext _ [some (.ref o), some (.ref x), some (.ref l), some (.int i), some (.int n), some (.int (n % 10))] _
        generalize n % 10 = m at hm ⊢
        refine ⟨_, rfl, (by show 0 ≤ sizeLine; decide), fun e he => ?_⟩
        have s3 : Same H2 (upd H2 e (.lst [])) := (Same.refl H2).new he
        refine ⟨o, e, _, rfl, rfl, SqL.of (s3 _ _ ho2), SqL.of upd_same, _, rfl, ?_⟩
        refine ite2 (fun c1 => ?_) (fun c1 => ?_)
        · have hwl : 0 < ((ws.map V.str).length : Int) := by
            cases ws with
            | nil => exact absurd c1 (by decide)
            | cons a r => rw [List.length_map, List.length_cons]; omega
          refine ⟨_, rfl, _, _, rfl, rfl, ⟨by decide, by decide⟩, _, _, rfl, rfl, (by show (0 : Int) < 4; decide), _, _, rfl, rfl, _, rfl, ?_⟩
          refine ite2 (fun c2 => ?_) (fun c2 => ?_)
          · have hL : ((ws.map V.str).length : Int) = ws.length := by rw [List.length_map]
            have hd0 : 0 ≤ n / 40 % ((ws.map V.str).length : Int) := Int.emod_nonneg _ (by omega)
            have hd1 : n / 40 % ((ws.map V.str).length : Int) < (ws.length : Int) := by rw [← hL]; exact Int.emod_lt_of_pos _ hwl
            refine ⟨_, rfl, _, rfl, _, _, rfl, rfl, ⟨by decide, by decide⟩, _, rfl, o, _, rfl, .inl (SqL.of (s3 _ _ ho2)), _, _, rfl, rfl, hwl, o, _, _, _, rfl, rfl, SqL.of (s3 _ _ ho2), atI_map V.str ws "" hd0 hd1, ?_⟩
            have hym : ws.getD (n / 40 % ((ws.map V.str).length : Int)).toNat "" ∈ ws := by
              have hlt : (n / 40 % ((ws.map V.str).length : Int)).toNat < ws.length := by omega
              rw [List.getD_eq_getElem?_getD, List.getElem?_eq_getElem hlt]
              exact List.getElem_mem hlt
            generalize ws.getD (n / 40 % ((ws.map V.str).length : Int)).toNat "" = y at hym ⊢
            refine ⟨_, rfl, .inl ⟨rfl, _, SqL.of (s3 _ _ hl2)⟩, _, rfl, (by show 3 ≤ sizeLine; decide), fun g hg => ?_⟩
            have s4 : Same H2 (upd (upd H2 e (.lst [])) g (.lst [.int 1, .int 1, .int (-1)])) := (s3).new hg
            refine ⟨_, rfl, _, _, rfl, _, rfl, _, _, rfl, rfl, ⟨by decide, by decide⟩, _, _, rfl, rfl, (by show (0 : Int) < 2; decide), _, _, rfl, rfl, _, _, rfl, rfl, .inl ⟨by split <;> omega, by split <;> omega⟩, g, _, _, _, rfl, rfl, SqL.of upd_same, sgn_at i n hi0, ?_⟩
            refine ⟨_, rfl, (by show 2 ≤ sizeLine; decide), fun tp htp => ?_⟩
            have s5 := s4.new (o := .tup [.int (if (i : Int) = 0 then 1 else if n / 7 % 2 = 0 then 1 else -1), thV (.nam y)]) htp
            refine ⟨l, _, _, rfl, rfl, s5 _ _ hl2, small1000 (by rw [Paired.length hts, hlen]; omega), ?_⟩
            exact sum_leaf hl s2 hl2 hts hlen hsg hhd hth hnm s5 upd_same (th := .nam y) (hws y hym) (fun z ez => by cases ez; exact hym)
          · refine ⟨_, rfl, .inl ⟨rfl, _, SqL.of (s3 _ _ hl2)⟩, _, rfl, (by show 3 ≤ sizeLine; decide), fun g hg => ?_⟩
            have s4 : Same H2 (upd (upd H2 e (.lst [])) g (.lst [.int 1, .int 1, .int (-1)])) := (s3).new hg
            refine ⟨_, rfl, _, _, rfl, _, rfl, _, _, rfl, rfl, ⟨by decide, by decide⟩, _, _, rfl, rfl, (by show (0 : Int) < 2; decide), _, _, rfl, rfl, _, _, rfl, rfl, .inl ⟨by split <;> omega, by split <;> omega⟩, g, _, _, _, rfl, rfl, SqL.of upd_same, sgn_at i n hi0, ?_⟩
            refine ⟨_, rfl, (by show 2 ≤ sizeLine; decide), fun tp htp => ?_⟩
            have s5 := s4.new (o := .tup [.int (if (i : Int) = 0 then 1 else if n / 7 % 2 = 0 then 1 else -1), thV (.num m)]) htp
            refine ⟨l, _, _, rfl, rfl, s5 _ _ hl2, small1000 (by rw [Paired.length hts, hlen]; omega), ?_⟩
            exact sum_leaf hl s2 hl2 hts hlen hsg hhd hth hnm s5 upd_same (th := .num m) hm (fun z ez => by cases ez)
        · refine iteF ?_
          refine ⟨_, rfl, .inl ⟨rfl, _, SqL.of (s3 _ _ hl2)⟩, _, rfl, (by show 3 ≤ sizeLine; decide), fun g hg => ?_⟩
          have s4 : Same H2 (upd (upd H2 e (.lst [])) g (.lst [.int 1, .int 1, .int (-1)])) := (s3).new hg
          refine ⟨_, rfl, _, _, rfl, _, rfl, _, _, rfl, rfl, ⟨by decide, by decide⟩, _, _, rfl, rfl, (by show (0 : Int) < 2; decide), _, _, rfl, rfl, _, _, rfl, rfl, .inl ⟨by split <;> omega, by split <;> omega⟩, g, _, _, _, rfl, rfl, SqL.of upd_same, sgn_at i n hi0, ?_⟩
          refine ⟨_, rfl, (by show 2 ≤ sizeLine; decide), fun tp htp => ?_⟩
          have s5 := s4.new (o := .tup [.int (if (i : Int) = 0 then 1 else if n / 7 % 2 = 0 then 1 else -1), thV (.num m)]) htp
          refine ⟨l, _, _, rfl, rfl, s5 _ _ hl2, small1000 (by rw [Paired.length hts, hlen]; omega), ?_⟩
          exact sum_leaf hl s2 hl2 hts hlen hsg hhd hth hnm s5 upd_same (th := .num m) hm (fun z ez => by cases ez)
    · rintro σ H2 ⟨vs, ts, v3, v4, v5, rfl, s2, hl2, hts, hlen, hsg, hhd, hth, hnm⟩
      refine ⟨_, rfl, l, _, rfl, .inl ⟨SqL.of hl2, fun b gb => ?_⟩⟩
      have s3 : Same H2 (upd H2 b (.tup vs)) := (Same.refl H2).new gb
      exact q b ts _ (s2.trans s3) ⟨⟨vs, upd_same, hts.mono s3.tups⟩, by omega, by omega⟩ ⟨by omega, by omega, hth, hsg, hhd⟩ hnm
theorem paired_app {α β : Type} {F : α → β → Prop} : ∀ {xs xs' : List α} {ys ys' : List β}, Paired F xs ys → Paired F xs' ys' → Paired F (xs ++ xs') (ys ++ ys')
  | _, _, _, _, .nil, h => h
  | _, _, _, _, .cons r t, h => .cons r (paired_app t h)
theorem paired_take {α β : Type} {F : α → β → Prop} : ∀ {xs : List α} {ys : List β} (n : Nat), Paired F xs ys → Paired F (xs.take n) (ys.take n)
  | _, _, 0, _ => by simp only [List.take_zero]; exact .nil
  | _, _, n + 1, .nil => by simp only [List.take_nil]; exact .nil
  | _, _, n + 1, .cons r t => .cons r (paired_take n t)
theorem paired_drop {α β : Type} {F : α → β → Prop} : ∀ {xs : List α} {ys : List β} (n : Nat), Paired F xs ys → Paired F (xs.drop n) (ys.drop n)
  | _, _, 0, h => h
  | _, _, n + 1, .nil => by simp only [List.drop_nil]; exact .nil
  | _, _, n + 1, .cons r t => paired_drop n t
theorem KeepH.refl (l : Addr) (A : List Q4) (H : Hp) : KeepH l A H H := fun _ _ _ e => e
theorem KeepH.same {l : Addr} {A : List Q4} {H H1 H2 : Hp} (k : KeepH l A H H1) (s : Same H1 H2) : KeepH l A H H2 := fun a o ha e => s _ _ (k a o ha e)
theorem KeepH.trans {l : Addr} {A : List Q4} {H H1 H2 : Hp} (k : KeepH l A H H1) (s : KeepH l A H1 H2) : KeepH l A H H2 := fun a o ha e => s _ _ ha (k a o ha e)
theorem KeepH.put {l : Addr} {A : List Q4} {H H1 : Hp} (k : KeepH l A H H1) {i : Nat} {q : Q4} {x : Nat} {o : HO} (e : A[i]? = some q) (hx : x < 4) : KeepH l A H (upd H1 (q.nth x) o) := fun a c ha ec => by
  rw [upd_ne (fun z => ha (Or.inr (Or.inr ⟨i, q, x, e, hx, z.symm⟩)))]
  exact k a c ha ec
theorem house_row {H : Hp} {l : Addr} {A : List Q4} {hs : List Pp} (h : HouseAt H l A [] hs) {i : Nat} {q : Q4} {pp : Pp} {vs : List V} {v : V} {pr : Pr} (k : Nat) (e1 : A[i]? = some q) (e2 : hs[i]? = some pp) (hv : H q.r = some (.lst vs)) (hp : PrAt H (inH l A []) v pr) :
    HouseAt (upd H q.r (.lst (vs.take k ++ v :: vs.drop k))) l A [] (hs.set i { pp with rows := pp.rows.take k ++ pr :: pp.rows.drop k }) := by
  refine h.put (x := 1) e1 e2 (by omega) (fun H' eH TT KK o4 => ?_) ⟨_, hv⟩
  have P := h.pt i q pp e1 e2
  obtain ⟨vs', r1, r2⟩ := P.r
  have ev : vs' = vs := by
    have : some (HO.lst vs') = some (HO.lst vs) := r1.symm.trans hv
    injection this with this
    injection this
  subst ev
  have kp : ∀ {w : V} {z : Pr}, PrAt H (inH l A []) w z → PrAt H' (inH l A []) w z := fun y => y.keep TT fun a as ha hva => ⟨KK a as ha hva, ha⟩
  refine ⟨(o4 0 (by omega) (by omega)).trans P.p, ⟨vs'.take k ++ v :: vs'.drop k, ?_, ?_⟩, (o4 2 (by omega) (by omega)).trans P.o, (o4 3 (by omega) (by omega)).trans P.g⟩
  · rw [eH]; exact upd_same
  · have r3 := Paired.mapP r2 fun _ _ y => kp y
    exact paired_app (paired_take k r3) (.cons (kp hp) (paired_drop k r3))
theorem house_own {H : Hp} {l : Addr} {A : List Q4} {hs : List Pp} (h : HouseAt H l A [] hs) {i : Nat} {q : Q4} {pp : Pp} (y : Str) (e1 : A[i]? = some q) (e2 : hs[i]? = some pp) :
    HouseAt (upd H q.o (.lst (pp.owns.map V.str ++ [.str y]))) l A [] (hs.set i { pp with owns := pp.owns ++ [y] }) := by
  have P := h.pt i q pp e1 e2
  refine h.put (x := 2) e1 e2 (by omega) (fun H' eH TT KK o4 => ?_) ⟨_, P.o⟩
  obtain ⟨vs', r1, r2⟩ := P.r
  refine ⟨(o4 0 (by omega) (by omega)).trans P.p, ⟨vs', (o4 1 (by omega) (by omega)).trans r1, Paired.mapP r2 fun _ _ y => y.keep TT fun a as ha hva => ⟨KK a as ha hva, ha⟩⟩, ?_, (o4 3 (by omega) (by omega)).trans P.g⟩
  rw [eH]
  show upd H q.o _ q.o = _
  rw [upd_same, List.map_append]
  rfl
theorem house_give {H : Hp} {l : Addr} {A : List Q4} {hs : List Pp} (h : HouseAt H l A [] hs) {i : Nat} {q : Q4} {pp : Pp} (y : Str) (e1 : A[i]? = some q) (e2 : hs[i]? = some pp) :
    HouseAt (upd H q.g (.lst (pp.gives.map V.str ++ [.str y]))) l A [] (hs.set i { pp with gives := pp.gives ++ [y] }) := by
  have P := h.pt i q pp e1 e2
  refine h.put (x := 3) e1 e2 (by omega) (fun H' eH TT KK o4 => ?_) ⟨_, P.g⟩
  obtain ⟨vs', r1, r2⟩ := P.r
  refine ⟨(o4 0 (by omega) (by omega)).trans P.p, ⟨vs', (o4 1 (by omega) (by omega)).trans r1, Paired.mapP r2 fun _ _ y => y.keep TT fun a as ha hva => ⟨KK a as ha hva, ha⟩⟩, (o4 2 (by omega) (by omega)).trans P.o, ?_⟩
  rw [eH]
  show upd H q.g _ q.g = _
  rw [upd_same, List.map_append]
  rfl
def madeP : Pr → List Str
  | .own _ n _ => [n]
  | .bring _ ps _ => ps.map (·.2)
  | _ => []
def giveP : Pr → List Str
  | .give _ g _ => [g]
  | _ => []
def XsOk (xs : List Int) : Prop := xs.length = 6 ∧ Bnd xs
def PrOk (hs : List Pp) (i : Nat) : Pr → Prop
  | .own k n xs => (k = "set" ∨ k = "take") ∧ XsOk xs
  | .bring j ps xs => j < hs.length ∧ j ≠ i ∧ ps.length ≤ 6 ∧ (∀ p ∈ ps, ∃ pq, hs[j]? = some pq ∧ p.1 ∈ pq.gives) ∧ XsOk xs
  | .give o g xs => (∃ pp, hs[i]? = some pp ∧ o ∈ pp.owns) ∧ XsOk xs
  | .ask j xs => j < hs.length ∧ j ≠ i ∧ XsOk xs
  | .sum k xs => (k = "say" ∨ k = "need") ∧ XsOk xs
structure PpOk (b0 b1 : Int) (hs : List Pp) (i : Nat) (pp : Pp) : Prop where
  n : ∃ n, pp.owns = drawnN b0 pp.sh n ∧ n ≤ 23
  m : ∃ m, pp.gives = drawnN b1 pp.sh m ∧ m ≤ 23
  r : pp.rows.length ≤ 40
  md : (pp.rows.flatMap madeP).Perm pp.owns
  gv : (pp.rows.flatMap giveP).Perm pp.gives
  ok : ∀ pr ∈ pp.rows, PrOk hs i pr
def HInv (b0 b1 : Int) (hs : List Pp) : Prop := ∀ i pp, hs[i]? = some pp → PpOk b0 b1 hs i pp
theorem PrOk.mono {hs hs' : List Pp} (hl : hs'.length = hs.length) (hg : ∀ (j : Nat) pq, hs[j]? = some pq → ∃ pq', hs'[j]? = some pq' ∧ (∀ y ∈ pq.owns, y ∈ pq'.owns) ∧ (∀ y ∈ pq.gives, y ∈ pq'.gives)) {i : Nat} {pr : Pr} (h : PrOk hs i pr) : PrOk hs' i pr := by
  cases pr with
  | own k n xs => exact h
  | bring j ps xs =>
    obtain ⟨h1, h2, h3, h4, h5⟩ := h
    refine ⟨by rw [hl]; exact h1, h2, h3, fun p hp => ?_, h5⟩
    obtain ⟨pq, e, m⟩ := h4 p hp
    obtain ⟨pq', e', _, m'⟩ := hg j pq e
    exact ⟨pq', e', m' _ m⟩
  | give o g xs =>
    obtain ⟨⟨pp, e, m⟩, h5⟩ := h
    obtain ⟨pq', e', m', _⟩ := hg i pp e
    exact ⟨⟨pq', e', m' _ m⟩, h5⟩
  | ask j xs => exact ⟨by rw [hl]; exact h.1, h.2⟩
  | sum k xs => exact h
theorem flat_ins {β : Type} (f : Pr → List β) (rs : List Pr) (k : Nat) (y : Pr) : ((rs.take k ++ y :: rs.drop k).flatMap f).Perm (f y ++ rs.flatMap f) := by
  rw [List.flatMap_append, List.flatMap_cons]
  refine (List.perm_append_comm_assoc _ _ _).trans ?_
  rw [← List.flatMap_append, List.take_append_drop]
theorem HInv.put {b0 b1 : Int} {hs : List Pp} (h : HInv b0 b1 hs) {i : Nat} {pp pp' : Pp} {k : Nat} {y : Pr} (e : hs[i]? = some pp) (hn : ∃ n, pp'.owns = drawnN b0 pp'.sh n ∧ n ≤ 23) (hm : ∃ m, pp'.gives = drawnN b1 pp'.sh m ∧ m ≤ 23) (hr : pp'.rows = pp.rows.take k ++ y :: pp.rows.drop k) (h39 : pp.rows.length ≤ 39)
    (ho : (madeP y ++ pp.owns).Perm pp'.owns) (hg : (giveP y ++ pp.gives).Perm pp'.gives) (hy : PrOk (hs.set i pp') i y) : HInv b0 b1 (hs.set i pp') := by
  have hi := (List.getElem?_eq_some_iff.mp e).1
  have G : ∀ (j : Nat) pq, hs[j]? = some pq → ∃ pq', (hs.set i pp')[j]? = some pq' ∧ (∀ y ∈ pq.owns, y ∈ pq'.owns) ∧ (∀ y ∈ pq.gives, y ∈ pq'.gives) := fun j pq ej => by
    by_cases hij : i = j
    · subst hij
      rw [e] at ej
      cases ej
      exact ⟨pp', List.getElem?_set_self hi, fun z hz => ho.mem_iff.mp (List.mem_append_right _ hz), fun z hz => hg.mem_iff.mp (List.mem_append_right _ hz)⟩
    · exact ⟨pq, by rw [List.getElem?_set_ne hij]; exact ej, fun z hz => hz, fun z hz => hz⟩
  intro j pq ej
  by_cases hij : i = j
  · subst hij
    rw [List.getElem?_set_self hi] at ej
    cases ej
    have P := h i pp e
    refine ⟨hn, hm, ?_, ?_, ?_, fun pr hpr => ?_⟩
    · rw [hr, List.length_append, List.length_cons, List.length_take, List.length_drop]; omega
    · rw [hr]
      exact (flat_ins madeP pp.rows k y).trans ((List.Perm.append_left _ P.md).trans ho)
    · rw [hr]
      exact (flat_ins giveP pp.rows k y).trans ((List.Perm.append_left _ P.gv).trans hg)
    · rw [hr] at hpr
      rcases List.mem_append.mp hpr with z | z
      · exact (P.ok pr (List.mem_of_mem_take z)).mono (List.length_set ..) G
      · rcases List.mem_cons.mp z with z | z
        · rw [z]; exact hy
        · exact (P.ok pr (List.mem_of_mem_drop z)).mono (List.length_set ..) G
  · rw [List.getElem?_set_ne hij] at ej
    have P := h j pq ej
    exact ⟨P.n, P.m, P.r, P.md, P.gv, fun pr hpr => (P.ok pr hpr).mono (List.length_set ..) G⟩
theorem XsAt.keep {l x : Addr} {A : List Q4} {H H' : Hp} {xs : List Int} (h : XsAt H (inH l A []) x xs) (k : KeepH l A H H') : XsAt H' (inH l A []) x xs := ⟨k _ _ h.2 h.1, h.2⟩
def spAdded : Sp := fun vs H Q _ => ∃ (l pl x : Addr) (A : List Q4) (hs : List Pp) (b0 b1 b2 : Int) (xs : List Int), vs = [.ref l, .ref pl, .ref x] ∧ HouseAt H l A [] hs ∧ PoolsAt H pl l A b0 b1 b2 ∧ XsAt H (inH l A []) x xs ∧ XsOk xs ∧ 1 ≤ hs.length ∧ hs.length ≤ 24 ∧ HInv b0 b1 hs ∧
  ∀ (hs' : List Pp) (H' : Hp), HouseAt H' l A [] hs' → hs'.length = hs.length → HInv b0 b1 hs' → KeepH l A H H' → Q .non H'
theorem tand_pure {t u : TT} {σ : L2.St} {H : Hp} {a b : Bool} (ht : ∀ Q : Bool → Hp → Prop, Q a H → t σ H Q) (hu : ∀ Q : Bool → Hp → Prop, Q b H → u σ H Q) : ∀ Q : Bool → Hp → Prop, Q (a && b) H → tAnd t u σ H Q := fun Q h => by
  refine ht _ ?_
  cases a with
  | true => exact iteT (hu _ h)
  | false => exact iteF h
theorem tor_pure {t u : TT} {σ : L2.St} {H : Hp} {a b : Bool} {Q : Bool → Hp → Prop} (ht : ∀ Q : Bool → Hp → Prop, Q a H → t σ H Q) (hu : ∀ Q : Bool → Hp → Prop, Q b H → u σ H Q) (h : Q (a || b) H) : tOr t u σ H Q := by
  refine ht _ ?_
  cases a with
  | true => exact iteT h
  | false => exact iteF (hu _ h)
theorem seq_if_or {t u : TT} {A B R : TS} {D : Ends} {σ : L2.St} {H : Hp} {a b : Bool} (ht : ∀ Q : Bool → Hp → Prop, Q a H → t σ H Q) (hu : ∀ Q : Bool → Hp → Prop, Q b H → u σ H Q) (h : if (a || b) = true then A { D with nx := R D } σ H else B { D with nx := R D } σ H) : tSeq (tIfS (tOr t u) A B) R D σ H := tor_pure ht hu h
theorem nx_if_or {t u : TT} {A B R : TS} {D D2 : Ends} {σ : L2.St} {H : Hp} {a b : Bool} (e : D2.nx = tSeq (tIfS (tOr t u) A B) R D) (ht : ∀ Q : Bool → Hp → Prop, Q a H → t σ H Q) (hu : ∀ Q : Bool → Hp → Prop, Q b H → u σ H Q) (h : if (a || b) = true then A { D with nx := R D } σ H else B { D with nx := R D } σ H) : tNext D2 σ H := by
  show D2.nx σ H
  rw [e]
  exact seq_if_or ht hu h
theorem if_and {t u : TT} {A B : TS} {D : Ends} {σ : L2.St} {H : Hp} {a b : Bool} (ht : ∀ Q : Bool → Hp → Prop, Q a H → t σ H Q) (hu : ∀ Q : Bool → Hp → Prop, Q b H → u σ H Q) (h : if (a && b) = true then A D σ H else B D σ H) : tIfS (tAnd t u) A B D σ H := tand_pure ht hu _ h
theorem if_andS {t u : TT} {A B : TS} {D : Ends} {σ : L2.St} {H : Hp} {a b : Bool} (ht : ∀ Q : Bool → Hp → Prop, Q a H → t σ H Q) (hu : ∀ Q : Bool → Hp → Prop, (∀ H1, Same H H1 → Q b H1) → u σ H Q) (h : ∀ H1, Same H H1 → if (a && b) = true then A D σ H1 else B D σ H1) : tIfS (tAnd t u) A B D σ H := by
  refine ht _ ?_
  cases a with
  | true => exact iteT (hu _ h)
  | false => exact iteF (h H (Same.refl H))
theorem kinds_at {c : Int} (h0 : 0 ≤ c) (h1 : c < 4) : ∃ k : Str, atI [V.str "set", V.str "set", V.str "set", V.str "take"] c = some (.str k) ∧ (k = "set" ∨ k = "take") := by
  have : c = 0 ∨ c = 1 ∨ c = 2 ∨ c = 3 := by omega
  rcases this with rfl | rfl | rfl | rfl
  · exact ⟨_, rfl, .inl rfl⟩
  · exact ⟨_, rfl, .inl rfl⟩
  · exact ⟨_, rfl, .inl rfl⟩
  · exact ⟨_, rfl, .inr rfl⟩
theorem sayneed_at {c : Int} (h0 : 0 ≤ c) (h1 : c < 2) : ∃ k : Str, atI [V.str "say", V.str "need"] c = some (.str k) ∧ (k = "say" ∨ k = "need") := by
  have : c = 0 ∨ c = 1 := by omega
  rcases this with rfl | rfl
  · exact ⟨_, rfl, .inl rfl⟩
  · exact ⟨_, rfl, .inr rfl⟩
theorem other_ok {a L y : Int} {i : Nat} (hL : 0 < L) (hi : (i : Int) < L) (h0 : 0 ≤ y) : ∃ j : Nat, ((i : Int) + 1 + y % (if L - 1 > 1 then L - 1 else 1)) % L = j ∧ (j : Int) < L ∧ (1 < L → j ≠ i) := by
  have hm : (0 : Int) < (if L - 1 > 1 then L - 1 else 1) := by split <;> omega
  have r0 := Int.emod_nonneg y (Int.ne_of_gt hm)
  have r1 := Int.emod_lt_of_pos y hm
  have r2 : 1 < L → y % (if L - 1 > 1 then L - 1 else 1) < L - 1 := fun h => by
    have : (if L - 1 > 1 then L - 1 else 1) ≤ L - 1 := by split <;> omega
    omega
  have r3 : ¬ 1 < L → y % (if L - 1 > 1 then L - 1 else 1) = 0 := fun h => by
    have : (if L - 1 > 1 then L - 1 else 1) = 1 := by rw [if_neg (by omega)]
    rw [this] at r0 r1 ⊢
    omega
  generalize y % (if L - 1 > 1 then L - 1 else 1) = r at *
  have e0 := Int.emod_nonneg ((i : Int) + 1 + r) (Int.ne_of_gt hL)
  have e1 := Int.emod_lt_of_pos ((i : Int) + 1 + r) hL
  refine ⟨(((i : Int) + 1 + r) % L).toNat, by omega, by omega, fun h z => ?_⟩
  have r2' := r2 h
  by_cases hc : (i : Int) + 1 + r < L
  · rw [Int.emod_eq_of_lt (by omega) hc] at z
    omega
  · have e2 : ((i : Int) + 1 + r) % L = (i : Int) + 1 + r - L := by
      rw [show (i : Int) + 1 + r = ((i : Int) + 1 + r - L) + L by omega, Int.add_emod_right, Int.emod_eq_of_lt (by omega) (by omega)]
      omega
    rw [e2] at z
    omega
theorem PoolsAt.keep {H H' : Hp} {pl l : Addr} {A : List Q4} {b0 b1 b2 : Int} (h : PoolsAt H pl l A b0 b1 b2) (k : KeepH l A H H') : PoolsAt H' pl l A b0 b1 b2 := ⟨k _ _ h.n h.h, h.n, h.r0, h.r1, h.r2⟩
theorem join_set {c : Bool} {N : L2.St → Hp → Prop} {H : Hp} (S : Int → L2.St) (C : Int → Prop) (k1 k2 : Int) (h1 : c = true → C k1) (h2 : c = false → C k2) (h : ∀ k, C k → N (S k) H) : if c = true then N (S k1) H else N (S k2) H := by
  cases c with
  | true => exact iteT (h _ (h1 rfl))
  | false => exact iteF (h _ (h2 rfl))
theorem ok_added (T : Txt K mg) : L2.Cl P w K mg base 4 "_law_added" ["_law_house", "_law_pools_here", "_law_xs"] spAdded := by
  have C_law_fresh := ok_fresh (P := P) (w := w) (base := base) T
  have C_law_pairs := ok_pairs (P := P) (w := w) (base := base) T
  refine Cl.of T.d_law_added sc_law_added (fun vs H Q E h => ?_) (fun _ _ _ _ _ _ us hl => match us, hl with | [_, _, _], _ => rfl) (fun f cdv A' outer s H vs Q E hr h => ?_)
  · obtain ⟨l, pl, x, A, hs, b0, b1, b2, xs, rfl, _⟩ := h
    rfl
  · obtain ⟨l, pl, x, A, hs, b0, b1, b2, xs, rfl, hh, hpl, ⟨hx, hxn⟩, ⟨h6, hb⟩, hs1, hs2, hI, q⟩ := h
    have hu0 := Nat.lt_of_succ_lt (hu_of hr)
    have R := xs_rng h6 hb
    have hAl : ((A.map fun q => V.ref q.p).length : Int) = hs.length := by rw [List.length_map, hh.len]
    have hlp : (0 : Int) < ((A.map fun q => V.ref q.p).length : Int) := by rw [hAl]; omega
    refine ⟨_, (pss_cons (ps_set (i := 3) sc_law_added.nd rfl (Or.inl rfl) (pe_op op_mod (pe_ix ix_list (pv 2) pe_int (fun _ _ => rfl)) (pe_callB call_len_seq (by rfl) T.n_len PySem.boot_len (pa_cons (pv 0) pa_nil))))
      (pss_cons (ps_set (i := 4) sc_law_added.nd rfl (Or.inl rfl) (pe_ix ix_list (pv 0) (pv 3) (fun _ _ => rfl)))
      (pss_cons (ps_set (i := 5) sc_law_added.nd rfl (Or.inl rfl) (pe_op op_mod (pe_ix ix_list (pv 2) pe_int (fun _ _ => rfl)) (pe_op op_add (pe_callB call_len_seq (by rfl) T.n_len PySem.boot_len (pa_cons (pe_ix ix_list (pv 4) pe_int (fun _ _ => rfl)) pa_nil)) pe_int)))
      (pss_cons (ps_set (i := 6) sc_law_added.nd rfl (Or.inl rfl) (pe_op op_mod (pe_ix ix_list (pv 2) pe_int (fun _ _ => rfl)) pe_int))
      (pss_cons (ps_set (i := 7) sc_law_added.nd rfl (Or.inl rfl) (pe_op op_mod (pe_op op_add (pe_op op_add (pv 3) pe_int) (pe_op op_mod (pe_ix ix_list (pv 2) pe_int (fun _ _ => rfl)) (pe_callB (call_max2 rfl) (by rfl) T.n_max boot_max (pa_cons pe_int (pa_cons (pe_op op_sub (pe_callB call_len_seq (by rfl) T.n_len PySem.boot_len (pa_cons (pv 0) pa_nil)) pe_int) pa_nil))))) (pe_callB call_len_seq (by rfl) T.n_len PySem.boot_len (pa_cons (pv 0) pa_nil))))
      (pss_cons (ps_if (pt_cmpR op_gt (pe_callB call_len_seq (by rfl) T.n_len PySem.boot_len (pa_cons (pe_ix ix_list (pv 4) pe_int (fun _ _ => rfl)) pa_nil)) pe_int (nomark _))
        (pss_one ps_retN) pss_nil)
      (pss_cons (ps_if (PW.pt (pw_or (PW.pt (pw_and (pt_cmpR op_gt (pe_callB call_len_seq (by rfl) T.n_len PySem.boot_len (pa_cons (pe_ix ix_list (pv 4) pe_int (fun _ _ => rfl)) pa_nil)) pe_int (nomark _)) (pw_and1 (pt_cmpR op_lt (pv 6) pe_int (nomark _))))) (pw_or1 (PW.pt (pw_and (pt_cmpR op_gt (pe_callB call_len_seq (by rfl) T.n_len PySem.boot_len (pa_cons (pe_ix ix_list (pv 4) pe_int (fun _ _ => rfl)) pa_nil)) pe_int (nomark _)) (pw_and1 (pt_cmpR op_lt (pv 6) pe_int (nomark _))))))))
        (pss_one (ps_set (i := 6) sc_law_added.nd rfl (Or.inl rfl) pe_int)) pss_nil)
      (pss_one (ps_if (pt_cmpR op_lt (pv 6) pe_int (nomark _))
        (pss_cons (ps_set (i := 8) sc_law_added.nd rfl (Or.inl rfl) (pe_fn C_law_fresh hr (by rfl) (pa_cons (pv 4) (pa_cons (pe_ix ix_list (pv 1) pe_int (fun _ _ => rfl)) (pa_cons (pe_callB call_len_seq (by rfl) T.n_len PySem.boot_len (pa_cons (pe_ix ix_list (pv 4) pe_int (fun _ _ => rfl)) pa_nil)) pa_nil)))))
        (pss_cons (ps_expr (pe_bm PySem.F.plainAttrs_list PySem.F.slot_list_append PySem.F.type_list_append mt_append (pe_ix ix_list (pv 4) pe_int (fun _ _ => rfl)) (pa_cons (pv 8) pa_nil)))
        (pss_one (ps_expr (pe_bm PySem.F.plainAttrs_list PySem.F.slot_list_insert PySem.F.type_list_insert mt_insert (pe_ix ix_list (pv 4) pe_int (fun _ _ => rfl)) (pa_cons (pv 5) (pa_cons (pe_tup (pa_cons (pe_ix ix_list (pe_lst (pa_strs (.cons (.cons (.cons (.cons .nil)))))) (pv 6) (fun _ _ => rfl)) (pa_cons (pv 8) (pa_cons (pv 2) pa_nil)))) pa_nil))))))) (pss_one (ps_if (PW.pt (pw_and (pt_cmpR op_lt (pv 6) pe_int (nomark _)) (pw_and1 (pt_cmpR op_gt (pe_callB call_len_seq (by rfl) T.n_len PySem.boot_len (pa_cons (pv 0) pa_nil)) pe_int (nomark _)))))
          (pss_one (ps_expr (pe_bm PySem.F.plainAttrs_list PySem.F.slot_list_insert PySem.F.type_list_insert mt_insert (pe_ix ix_list (pv 4) pe_int (fun _ _ => rfl)) (pa_cons (pv 5) (pa_cons (pe_tup (pa_cons pe_str (pa_cons (pe_tup (pa_cons (pv 7) (pa_cons (pe_fn C_law_pairs hr (by rfl) (pa_cons (pv 0) (pa_cons (pv 1) (pa_cons (pv 3) (pa_cons (pv 7) (pa_cons (pv 2) pa_nil)))))) pa_nil))) (pa_cons (pv 2) pa_nil)))) pa_nil))))) (pss_one (ps_if (PW.pt (pw_and (pt_cmpR op_lt (pv 6) pe_int (nomark _)) (pw_and1 (pt_cmpR (op_neL_nil hu0) (pe_ix ix_list (pv 4) pe_int (fun _ _ => rfl)) (pe_lst pa_nil) (nomark _)))))
            (pss_cons (ps_set (i := 9) sc_law_added.nd rfl (Or.inl rfl) (pe_fn C_law_fresh hr (by rfl) (pa_cons (pv 4) (pa_cons (pe_ix ix_list (pv 1) pe_int (fun _ _ => rfl)) (pa_cons (pe_callB call_len_seq (by rfl) T.n_len PySem.boot_len (pa_cons (pe_ix ix_list (pv 4) pe_int (fun _ _ => rfl)) pa_nil)) pa_nil)))))
            (pss_cons (ps_expr (pe_bm PySem.F.plainAttrs_list PySem.F.slot_list_append PySem.F.type_list_append mt_append (pe_ix ix_list (pv 4) pe_int (fun _ _ => rfl)) (pa_cons (pv 9) pa_nil)))
            (pss_one (ps_expr (pe_bm PySem.F.plainAttrs_list PySem.F.slot_list_insert PySem.F.type_list_insert mt_insert (pe_ix ix_list (pv 4) pe_int (fun _ _ => rfl)) (pa_cons (pv 5) (pa_cons (pe_tup (pa_cons pe_str (pa_cons (pe_tup (pa_cons (pe_ix ix_list (pe_ix ix_list (pv 4) pe_int (fun _ _ => rfl)) (pe_op op_mod (pe_ix ix_list (pv 2) pe_int (fun _ _ => rfl)) (pe_callB call_len_seq (by rfl) T.n_len PySem.boot_len (pa_cons (pe_ix ix_list (pv 4) pe_int (fun _ _ => rfl)) pa_nil))) (fun _ _ => rfl)) (pa_cons (pv 9) pa_nil))) (pa_cons (pv 2) pa_nil)))) pa_nil))))))) (pss_one (ps_if (PW.pt (pw_and (pt_cmpR op_eq (pv 6) pe_int (nomark _)) (pw_and1 (pt_cmpR op_gt (pe_callB call_len_seq (by rfl) T.n_len PySem.boot_len (pa_cons (pv 0) pa_nil)) pe_int (nomark _)))))
              (pss_one (ps_expr (pe_bm PySem.F.plainAttrs_list PySem.F.slot_list_insert PySem.F.type_list_insert mt_insert (pe_ix ix_list (pv 4) pe_int (fun _ _ => rfl)) (pa_cons (pv 5) (pa_cons (pe_tup (pa_cons pe_str (pa_cons (pv 7) (pa_cons (pv 2) pa_nil)))) pa_nil))))) (pss_one (ps_expr (pe_bm PySem.F.plainAttrs_list PySem.F.slot_list_insert PySem.F.type_list_insert mt_insert (pe_ix ix_list (pv 4) pe_int (fun _ _ => rfl)) (pa_cons (pv 5) (pa_cons (pe_tup (pa_cons (pe_ix ix_list (pe_lst (pa_cons pe_str (pa_cons pe_str pa_nil))) (pe_op op_mod (pe_ix ix_list (pv 2) pe_int (fun _ _ => rfl)) pe_int) (fun _ _ => rfl)) (pa_cons pe_non (pa_cons (pv 2) pa_nil)))) pa_nil)))))))))))))))))))), ?_⟩
    refine ⟨_, rfl, x, _, _, _, rfl, rfl, SqL.of hx, atI_map V.int xs 0 (by decide) (by omega), _, rfl, l, _, rfl, .inl (SqL.of hh.ll), _, _, rfl, rfl, hlp, ?_⟩
    show gName 3 (V.int (xs.getD (5 : Int).toNat 0 % ((A.map fun q => V.ref q.p).length : Int))) _ _ _
    obtain ⟨i, hi, hie⟩ : ∃ i : Nat, i < hs.length ∧ xs.getD (5 : Int).toNat 0 % ((A.map fun q => V.ref q.p).length : Int) = i := ⟨(xs.getD (5 : Int).toNat 0 % ((A.map fun q => V.ref q.p).length : Int)).toNat, by have := Int.emod_lt_of_pos (xs.getD (5 : Int).toNat 0) hlp; have := Int.emod_nonneg (xs.getD (5 : Int).toNat 0) (Int.ne_of_gt hlp); omega, by have := Int.emod_nonneg (xs.getD (5 : Int).toNat 0) (Int.ne_of_gt hlp); omega⟩
    rw [hie]
    clear hie
    obtain ⟨pp, ei⟩ : ∃ pp, hs[i]? = some pp := ⟨hs[i], by simp [hi]⟩
    obtain ⟨qi, eqi⟩ : ∃ q, A[i]? = some q := ⟨A[i]'(by rw [hh.len]; exact hi), by simp [hh.len, hi]⟩
    have mi : (A.map fun q => V.ref q.p)[i]? = some (.ref qi.p) := by rw [List.getElem?_map, eqi]; rfl
    have Pi := hh.pt i qi pp eqi ei
    obtain ⟨rv, hrv, hrp⟩ := Pi.r
    have hrl : rv.length = pp.rows.length := Paired.length hrp
    have OK := hI i pp ei
    obtain ⟨n, hn, hn23⟩ := OK.n
    obtain ⟨m, hm, hm23⟩ := OK.m
    have hol : (pp.owns.map V.str).length = n := by rw [List.length_map, hn, drawnN_len]
    have hgl : (pp.gives.map V.str).length = m := by rw [List.length_map, hm, drawnN_len]
    refine ⟨_, rfl, _, rfl, l, _, _, _, rfl, rfl, SqL.of hh.ll, atI_nat mi, ?_⟩
    refine ⟨_, rfl, x, _, _, _, rfl, rfl, SqL.of hx, atI_map V.int xs 0 (by decide) (by omega), _, rfl, qi.p, _, _, _, rfl, rfl, SqL.of Pi.p, rfl, qi.r, _, rfl, .inl (SqL.of hrv), _, _, rfl, rfl, _, _, rfl, rfl, (by show (0 : Int) < (rv.length : Int) + 1; omega), ?_⟩
    show gName 5 (V.int (xs.getD (4 : Int).toNat 0 % ((rv.length : Int) + 1))) _ _ _
    obtain ⟨k, hk, hke⟩ : ∃ k : Nat, k ≤ rv.length ∧ xs.getD (4 : Int).toNat 0 % ((rv.length : Int) + 1) = k := ⟨(xs.getD (4 : Int).toNat 0 % ((rv.length : Int) + 1)).toNat, by have := Int.emod_lt_of_pos (xs.getD (4 : Int).toNat 0) (show (0 : Int) < (rv.length : Int) + 1 by omega); have := Int.emod_nonneg (xs.getD (4 : Int).toNat 0) (show (rv.length : Int) + 1 ≠ 0 by omega); omega, by have := Int.emod_nonneg (xs.getD (4 : Int).toNat 0) (show (rv.length : Int) + 1 ≠ 0 by omega); omega⟩
    rw [hke]
    clear hke
    refine ⟨_, rfl, x, _, _, _, rfl, rfl, SqL.of hx, atI_map V.int xs 0 (by decide) (by omega), _, _, rfl, rfl, (by show (0 : Int) < 10; decide), ?_⟩
    refine gen_gName (fun d => 0 ≤ d ∧ d < 10) _ ⟨by omega, by omega⟩ (fun d hd => ?_)
    have hmx : (0 : Int) < (if ((A.map fun q => V.ref q.p).length : Int) - 1 > 1 then ((A.map fun q => V.ref q.p).length : Int) - 1 else 1) := by split <;> omega
    refine ⟨_, rfl, _, _, rfl, rfl, _, rfl, x, _, _, _, rfl, rfl, SqL.of hx, atI_map V.int xs 0 (by decide) (by omega), _, rfl, l, _, rfl, .inl (SqL.of hh.ll), _, _, rfl, rfl, _, _, rfl, _, _, rfl, rfl, hmx, _, _, rfl, rfl, _, rfl, l, _, rfl, .inl (SqL.of hh.ll), _, _, rfl, rfl, hlp, ?_⟩
    refine gen_gName (fun j => ∃ j' : Nat, j = j' ∧ j' < hs.length ∧ (1 < hs.length → j' ≠ i)) _ ?_ (fun j hj => ?_)
    · obtain ⟨j', e1, e2, e3⟩ := other_ok (a := 0) (y := xs.getD (1 : Int).toNat 0) (i := i) hlp (by omega) (R 1 (by decide) (by decide)).1
      exact ⟨j', e1, by omega, fun h => e3 (by omega)⟩
    obtain ⟨j, rfl, hj, hji⟩ := hj
    refine ⟨_, rfl, qi.p, _, _, _, rfl, rfl, SqL.of Pi.p, rfl, qi.r, _, rfl, .inl (SqL.of hrv), _, _, rfl, rfl, _, rfl, ?_⟩
    refine ite2 (fun c0 => ?_) (fun c0 => ?_)
    · exact q hs H hh rfl hI (KeepH.refl l A H)
    have h39 : pp.rows.length ≤ 39 := by
      have : ¬ ((rv.length : Int) > 39) := by simpa using c0
      omega
    apply nx_if_or
    · with_reducible_and_instances rfl
    · exact tand_pure (a := decide (((pp.owns.map V.str).length : Int) > 17)) (b := decide (d < 6)) (fun Q' h => ⟨_, rfl, qi.p, _, _, _, rfl, rfl, SqL.of Pi.p, rfl, qi.o, _, rfl, .inl (SqL.of Pi.o), _, _, rfl, rfl, _, rfl, h⟩) (fun Q' h => ⟨_, rfl, _, _, rfl, rfl, _, rfl, h⟩)
    · exact tand_pure (a := decide (((pp.gives.map V.str).length : Int) > 22)) (b := decide (d < 8)) (fun Q' h => ⟨_, rfl, qi.p, _, _, _, rfl, rfl, SqL.of Pi.p, rfl, qi.g, _, rfl, .inl (SqL.of Pi.g), _, _, rfl, rfl, _, rfl, h⟩) (fun Q' h => ⟨_, rfl, _, _, rfl, rfl, _, rfl, h⟩)
    refine join_set (S := fun e => [some (.ref l), some (.ref pl), some (.ref x), some (.int i), some (.ref qi.p), some (.int k), some (.int e), some (.int j), none, none]) (fun c => 0 ≤ c ∧ c < 10 ∧ (c < 6 → n ≤ 17) ∧ (c < 8 → m ≤ 22)) 8 d ?_ ?_ (fun c hc => ?_)
    · exact fun _ => ⟨by decide, by decide, fun h => absurd h (by decide), fun h => absurd h (by decide)⟩
    · intro hf
      simp only [Bool.or_eq_false_iff, Bool.and_eq_false_iff, decide_eq_false_iff_not] at hf
      exact ⟨hd.1, hd.2, fun h => by omega, fun h => by omega⟩
    obtain ⟨hc0, hc1, hc6, hc8⟩ := hc
    have hset : ∀ pp' : Pp, (hs.set i pp')[i]? = some pp' := fun pp' => List.getElem?_set_self hi
    -- a set or take row
    refine ⟨_, rfl, _, _, rfl, rfl, _, rfl, ?_⟩
    refine ite2 (fun c1 => ?_) (fun c1 => ?_)
    · have c1' : c < 4 := by simpa using c1
      obtain ⟨kk, hat, hkk⟩ := kinds_at hc0 c1'
      refine ⟨_, rfl, _, rfl, pl, _, _, _, rfl, rfl, SqL.of hpl.h, rfl, _, rfl, qi.p, _, _, _, rfl, rfl, SqL.of Pi.p, rfl, qi.o, _, rfl, .inl (SqL.of Pi.o), ?_⟩
      refine ⟨qi.p, qi.r, qi.o, qi.g, b0, _, pp.sh, rfl, Pi.p, hpl.r0.1, hpl.r0.2, by omega, fun H3 s3 => ?_⟩
      rw [hol]
      have h3 := hh.same s3
      have P3 := h3.pt i qi pp eqi ei
      refine ⟨_, rfl, qi.p, _, _, _, rfl, rfl, SqL.of P3.p, rfl, .inl ⟨rfl, _, SqL.of P3.o⟩, _, rfl, qi.o, _, _, rfl, rfl, P3.o, small1000 (by rw [hol]; omega), ?_⟩
      have h4 := house_own h3 (nameM b0 (((n : Int) + pp.sh) % 24)) eqi ei
      have k4 : KeepH l A H (upd H3 qi.o (.lst (pp.owns.map V.str ++ [.str (nameM b0 (((n : Int) + pp.sh) % 24))]))) := ((KeepH.refl l A H).same s3).put (x := 2) eqi (by omega)
      generalize upd H3 qi.o (.lst (pp.owns.map V.str ++ [.str (nameM b0 (((n : Int) + pp.sh) % 24))])) = H4 at h4 k4 ⊢
      have P4 := h4.pt i qi _ eqi (hset _)
      obtain ⟨rv4, hrv4, hrp4⟩ := P4.r
      have hrl4 : rv4.length = pp.rows.length := Paired.length hrp4
      refine ⟨_, rfl, qi.p, _, _, _, rfl, rfl, SqL.of P4.p, rfl, .inl ⟨rfl, _, SqL.of hrv4⟩, _, rfl, (by show 4 ≤ sizeLine; decide), fun g hg => ?_⟩
      have s5 : Same H4 (upd H4 g (.lst [.str "set", .str "set", .str "set", .str "take"])) := (Same.refl H4).new hg
      refine ⟨_, rfl, g, _, _, _, rfl, rfl, SqL.of upd_same, hat, _, rfl, _, rfl, (by show 3 ≤ sizeLine; decide), fun tp htp => ?_⟩
      have s6 := s5.new (o := .tup [.str kk, .str (nameM b0 (((n : Int) + pp.sh) % 24)), .ref x]) htp
      refine ⟨qi.r, _, _, _, rfl, rfl, s6 _ _ hrv4, (by omega), (by show (k : Int) ≤ (rv4.length : Int); omega), small1000 (by omega), ?_⟩
      have h7 := house_row (h4.same s6) (pr := .own kk (nameM b0 (((n : Int) + pp.sh) % 24)) xs) k eqi (hset _) (s6 _ _ hrv4) ⟨tp, x, rfl, upd_same, (k4.same s6) _ _ hxn hx, hxn⟩
      rw [List.set_set] at h7
      refine q _ _ h7 (List.length_set ..) ?_ ((k4.same s6).put (x := 1) eqi (by omega))
      exact hI.put (k := k) (y := .own kk (nameM b0 (((n : Int) + pp.sh) % 24)) xs) ei ⟨n + 1, by show pp.owns ++ [_] = _; rw [hn, drawnN_succ], by have := hc6 (by omega); omega⟩ ⟨m, hm, hm23⟩ rfl h39 List.perm_append_comm (List.Perm.refl _) ⟨hkk, h6, hb⟩
    have c1' : ¬ c < 4 := by simpa using c1
    -- a bring row
    with_reducible apply if_and
    · exact fun Q' h => ⟨_, rfl, _, _, rfl, rfl, _, rfl, h⟩
    · exact fun Q' h => ⟨_, rfl, l, _, rfl, .inl (SqL.of hh.ll), _, _, rfl, rfl, _, rfl, h⟩
    refine ite2 (fun c2 => ?_) (fun c2 => ?_)
    · simp only [Bool.and_eq_true, decide_eq_true_eq] at c2
      obtain ⟨pq, ej⟩ : ∃ pq, hs[j]? = some pq := ⟨hs[j], by simp [hj]⟩
      have hjn := hji (by have := c2.2; omega)
      obtain ⟨m', hm', hm23'⟩ := (hI j pq ej).m
      have hn17 := hc6 c2.1
      refine ⟨_, rfl, qi.p, _, _, _, rfl, rfl, SqL.of Pi.p, rfl, .inl ⟨rfl, _, SqL.of hrv⟩, _, rfl, _, rfl, _, rfl, _, rfl, _, rfl, _, rfl, _, rfl, ?_⟩
      refine ⟨l, pl, x, A, hs, b0, b1, b2, i, j, n, pp, pq, xs, rfl, hh, hpl, ⟨hx, hxn⟩, h6, hb, ei, ej, hjn.symm, hn, hn17, (by rw [hm']; exact drawnN_ok hpl.r1.1), (by rw [hm', drawnN_len]; omega), fun mm ps q' H4 hmm hpl4 hdr hgv hpa h4 k4 => ?_⟩
      have P4 := h4.pt i qi _ eqi (hset _)
      obtain ⟨rv4, hrv4, hrp4⟩ := P4.r
      have hrl4 : rv4.length = pp.rows.length := Paired.length hrp4
      refine ⟨(by show 2 ≤ sizeLine; decide), fun u hu' => ?_⟩
      have s5 : Same H4 (upd H4 u (.tup [.int j, .ref q'])) := (Same.refl H4).new hu'
      refine ⟨_, rfl, (by show 3 ≤ sizeLine; decide), fun tp htp => ?_⟩
      have s6 := s5.new (o := .tup [.str "bring", .ref u, .ref x]) htp
      refine ⟨qi.r, _, _, _, rfl, rfl, s6 _ _ hrv4, (by omega), (by show (k : Int) ≤ (rv4.length : Int); omega), small1000 (by omega), ?_⟩
      have h7 := house_row (h4.same s6) (pr := .bring j ps xs) k eqi (hset _) (s6 _ _ hrv4) ⟨tp, u, q', x, rfl, upd_same, upd_keep upd_same htp, hpa.mono s6.tups, (k4.same s6) _ _ hxn hx, hxn⟩
      rw [List.set_set] at h7
      refine q _ _ h7 (List.length_set ..) ?_ ((k4.same s6).put (x := 1) eqi (by omega))
      refine hI.put (k := k) (y := .bring j ps xs) ei ⟨n + mm, rfl, by omega⟩ ⟨m, hm, hm23⟩ rfl h39 ?_ (List.Perm.refl _) ⟨by rw [List.length_set]; exact hj, hjn, by omega, fun p hp => ⟨pq, by rw [List.getElem?_set_ne hjn.symm]; exact ej, hgv p hp⟩, h6, hb⟩
      show (ps.map (·.2) ++ pp.owns).Perm (drawnN b0 pp.sh (n + mm))
      rw [← hdr, ← hn]
      exact List.perm_append_comm
    -- a give row
    with_reducible apply if_andS (b := !(pp.owns.map V.str).isEmpty)
    · exact fun Q' h => ⟨_, rfl, _, _, rfl, rfl, _, rfl, h⟩
    · exact fun Q' h => ⟨_, rfl, qi.p, _, _, _, rfl, rfl, SqL.of Pi.p, rfl, (by show 0 ≤ sizeLine; decide), fun e he => ⟨qi.o, e, _, rfl, rfl, SqL.of (((Same.refl H).new he) _ _ Pi.o), SqL.of upd_same, _, rfl, h _ ((Same.refl H).new he)⟩⟩
    intro H1 s1
    have h1 := hh.same s1
    have k1 := (KeepH.refl l A H).same s1
    have P1 := h1.pt i qi pp eqi ei
    have hpl1 := hpl.keep k1
    refine ite2 (fun c3 => ?_) (fun c3 => ?_)
    · simp only [Bool.and_eq_true, decide_eq_true_eq] at c3
      have hop : 0 < ((pp.owns.map V.str).length : Int) := by
        cases e : pp.owns.map V.str with
        | nil => rw [e] at c3; exact absurd c3.2 (by decide)
        | cons a r => rw [List.length_cons]; omega
      have hm22 := hc8 c3.1
      refine ⟨_, rfl, _, rfl, pl, _, _, _, rfl, rfl, SqL.of hpl1.h, rfl, _, rfl, qi.p, _, _, _, rfl, rfl, SqL.of P1.p, rfl, qi.g, _, rfl, .inl (SqL.of P1.g), ?_⟩
      refine ⟨qi.p, qi.r, qi.o, qi.g, b1, _, pp.sh, rfl, P1.p, hpl.r1.1, hpl.r1.2, by omega, fun H3 s3 => ?_⟩
      rw [hgl]
      have h3 := h1.same s3
      have P3 := h3.pt i qi pp eqi ei
      refine ⟨_, rfl, qi.p, _, _, _, rfl, rfl, SqL.of P3.p, rfl, .inl ⟨rfl, _, SqL.of P3.g⟩, _, rfl, qi.g, _, _, rfl, rfl, P3.g, small1000 (by rw [hgl]; omega), ?_⟩
      have h4 := house_give h3 (nameM b1 (((m : Int) + pp.sh) % 24)) eqi ei
      have k4 : KeepH l A H (upd H3 qi.g (.lst (pp.gives.map V.str ++ [.str (nameM b1 (((m : Int) + pp.sh) % 24))]))) := (k1.same s3).put (x := 3) eqi (by omega)
      generalize upd H3 qi.g (.lst (pp.gives.map V.str ++ [.str (nameM b1 (((m : Int) + pp.sh) % 24))])) = H4 at h4 k4 ⊢
      have P4 := h4.pt i qi _ eqi (hset _)
      obtain ⟨rv4, hrv4, hrp4⟩ := P4.r
      have hrl4 : rv4.length = pp.rows.length := Paired.length hrp4
      have hL : ((pp.owns.map V.str).length : Int) = pp.owns.length := by rw [List.length_map]
      have hd0 : 0 ≤ xs.getD (1 : Int).toNat 0 % ((pp.owns.map V.str).length : Int) := Int.emod_nonneg _ (by omega)
      have hd1 : xs.getD (1 : Int).toNat 0 % ((pp.owns.map V.str).length : Int) < (pp.owns.length : Int) := by rw [← hL]; exact Int.emod_lt_of_pos _ hop
      refine ⟨_, rfl, qi.p, _, _, _, rfl, rfl, SqL.of P4.p, rfl, .inl ⟨rfl, _, SqL.of hrv4⟩, _, rfl, _, rfl, qi.p, _, _, _, rfl, rfl, SqL.of P4.p, rfl, ?_⟩
      refine ⟨_, rfl, x, _, _, _, rfl, rfl, SqL.of (k4 _ _ hxn hx), atI_map V.int xs 0 (by decide) (by omega), _, rfl, qi.p, _, _, _, rfl, rfl, SqL.of P4.p, rfl, qi.o, _, rfl, .inl (SqL.of P4.o), _, _, rfl, rfl, hop, qi.o, _, _, _, rfl, rfl, SqL.of P4.o, atI_map V.str pp.owns "" hd0 hd1, ?_⟩
      have hym : pp.owns.getD (xs.getD (1 : Int).toNat 0 % ((pp.owns.map V.str).length : Int)).toNat "" ∈ pp.owns := by
        have hlt : (xs.getD (1 : Int).toNat 0 % ((pp.owns.map V.str).length : Int)).toNat < pp.owns.length := by omega
        rw [List.getD_eq_getElem?_getD, List.getElem?_eq_getElem hlt]
        exact List.getElem_mem hlt
      generalize pp.owns.getD (xs.getD (1 : Int).toNat 0 % ((pp.owns.map V.str).length : Int)).toNat "" = y at hym ⊢
      refine ⟨_, rfl, (by show 2 ≤ sizeLine; decide), fun u hu' => ?_⟩
      have s5 : Same H4 (upd H4 u (.tup [.str y, .str (nameM b1 (((m : Int) + pp.sh) % 24))])) := (Same.refl H4).new hu'
      refine ⟨_, rfl, (by show 3 ≤ sizeLine; decide), fun tp htp => ?_⟩
      have s6 := s5.new (o := .tup [.str "give", .ref u, .ref x]) htp
      refine ⟨qi.r, _, _, _, rfl, rfl, s6 _ _ hrv4, (by omega), (by show (k : Int) ≤ (rv4.length : Int); omega), small1000 (by omega), ?_⟩
      have h7 := house_row (h4.same s6) (pr := .give y (nameM b1 (((m : Int) + pp.sh) % 24)) xs) k eqi (hset _) (s6 _ _ hrv4) ⟨tp, u, x, rfl, upd_same, upd_keep upd_same htp, (k4.same s6) _ _ hxn hx, hxn⟩
      rw [List.set_set] at h7
      refine q _ _ h7 (List.length_set ..) ?_ ((k4.same s6).put (x := 1) eqi (by omega))
      exact hI.put (k := k) (y := .give y (nameM b1 (((m : Int) + pp.sh) % 24)) xs) ei ⟨n, hn, hn23⟩ ⟨m + 1, by show pp.gives ++ [_] = _; rw [hm, drawnN_succ], by omega⟩ rfl h39 (List.Perm.refl _) List.perm_append_comm ⟨⟨_, hset _, hym⟩, h6, hb⟩
    -- an ask row
    with_reducible apply if_and
    · exact fun Q' h => ⟨_, rfl, rfl, _, rfl, h⟩
    · exact fun Q' h => ⟨_, rfl, l, _, rfl, .inl (SqL.of h1.ll), _, _, rfl, rfl, _, rfl, h⟩
    obtain ⟨rv1, hrv1, hrp1⟩ := P1.r
    have hrl1 : rv1.length = pp.rows.length := Paired.length hrp1
    refine ite2 (fun c4 => ?_) (fun c4 => ?_)
    · simp only [Bool.and_eq_true, decide_eq_true_eq] at c4
      refine ⟨_, rfl, qi.p, _, _, _, rfl, rfl, SqL.of P1.p, rfl, .inl ⟨rfl, _, SqL.of hrv1⟩, _, rfl, _, rfl, _, rfl, (by show 3 ≤ sizeLine; decide), fun tp htp => ?_⟩
      have s6 : Same H1 (upd H1 tp (.tup [.str "ask", .int j, .ref x])) := (Same.refl H1).new htp
      refine ⟨qi.r, _, _, _, rfl, rfl, s6 _ _ hrv1, (by omega), (by show (k : Int) ≤ (rv1.length : Int); omega), small1000 (by omega), ?_⟩
      have h7 := house_row (h1.same s6) (pr := .ask j xs) k eqi ei (s6 _ _ hrv1) ⟨tp, x, rfl, upd_same, (k1.same s6) _ _ hxn hx, hxn⟩
      refine q _ _ h7 (List.length_set ..) ?_ ((k1.same s6).put (x := 1) eqi (by omega))
      exact hI.put (k := k) (y := .ask j xs) ei ⟨n, hn, hn23⟩ ⟨m, hm, hm23⟩ rfl h39 (List.Perm.refl _) (List.Perm.refl _) ⟨by rw [List.length_set]; exact hj, hji (by have := c4.2; omega), h6, hb⟩
    · obtain ⟨kk, hat, hkk⟩ := sayneed_at (c := xs.getD (1 : Int).toNat 0 % 2) (by omega) (by omega)
      refine ⟨_, rfl, qi.p, _, _, _, rfl, rfl, SqL.of P1.p, rfl, .inl ⟨rfl, _, SqL.of hrv1⟩, _, rfl, (by show 2 ≤ sizeLine; decide), fun g hg => ?_⟩
      have s5 : Same H1 (upd H1 g (.lst [.str "say", .str "need"])) := (Same.refl H1).new hg
      refine ⟨_, rfl, x, _, _, _, rfl, rfl, SqL.of ((k1.same s5) _ _ hxn hx), atI_map V.int xs 0 (by decide) (by omega), _, _, rfl, rfl, (by show (0 : Int) < 2; decide), g, _, _, _, rfl, rfl, SqL.of upd_same, hat, ?_⟩
      refine ⟨_, rfl, (by show 3 ≤ sizeLine; decide), fun tp htp => ?_⟩
      have s6 := s5.new (o := .tup [.str kk, .non, .ref x]) htp
      refine ⟨qi.r, _, _, _, rfl, rfl, s6 _ _ hrv1, (by omega), (by show (k : Int) ≤ (rv1.length : Int); omega), small1000 (by omega), ?_⟩
      have h7 := house_row (h1.same s6) (pr := .sum kk xs) k eqi ei (s6 _ _ hrv1) ⟨tp, x, rfl, upd_same, (k1.same s6) _ _ hxn hx, hxn⟩
      refine q _ _ h7 (List.length_set ..) ?_ ((k1.same s6).put (x := 1) eqi (by omega))
      exact hI.put (k := k) (y := .sum kk xs) ei ⟨n, hn, hn23⟩ ⟨m, hm, hm23⟩ rfl h39 (List.Perm.refl _) (List.Perm.refl _) ⟨hkk, h6, hb⟩
def kindP : Pr → Str
  | .own k _ _ => k
  | .bring _ _ _ => "bring"
  | .give _ _ _ => "give"
  | .ask _ _ => "ask"
  | .sum k _ => k
def xsP : Pr → List Int
  | .own _ _ xs => xs
  | .bring _ _ xs => xs
  | .give _ _ xs => xs
  | .ask _ xs => xs
  | .sum _ xs => xs
def oneP (H : Hp) (one : V) : Pr → Prop
  | .own _ n _ => one = .str n
  | .bring j ps _ => ∃ u q, one = .ref u ∧ H u = some (.tup [.int j, .ref q]) ∧ PairsAt H q ps
  | .give o g _ => ∃ u, one = .ref u ∧ H u = some (.tup [.str o, .str g])
  | .ask j _ => one = .int j
  | .sum _ _ => one = .non
theorem pr_parts {H : Hp} {F : Addr → Prop} {v : V} {pr : Pr} (h : PrAt H F v pr) : ∃ t x one, v = .ref t ∧ H t = some (.tup [.str (kindP pr), one, .ref x]) ∧ H x = some (.lst ((xsP pr).map V.int)) ∧ oneP H one pr := by
  cases pr with
  | own k n xs => obtain ⟨t, x, e, h1, h2⟩ := h; exact ⟨t, x, _, e, h1, h2.1, rfl⟩
  | bring j ps xs => obtain ⟨t, u, q, x, e, h1, h2, h3, h4⟩ := h; exact ⟨t, x, _, e, h1, h4.1, u, q, rfl, h2, h3⟩
  | give o g xs => obtain ⟨t, u, x, e, h1, h2, h3⟩ := h; exact ⟨t, x, _, e, h1, h3.1, u, rfl, h2⟩
  | ask j xs => obtain ⟨t, x, e, h1, h2⟩ := h; exact ⟨t, x, _, e, h1, h2.1, rfl⟩
  | sum k xs => obtain ⟨t, x, e, h1, h2⟩ := h; exact ⟨t, x, _, e, h1, h2.1, rfl⟩
theorem prOk_xs {hs : List Pp} {i : Nat} {pr : Pr} (h : PrOk hs i pr) : XsOk (xsP pr) := by
  cases pr with
  | own k n xs => exact h.2
  | bring j ps xs => exact h.2.2.2.2
  | give o g xs => exact h.2
  | ask j xs => exact h.2.2
  | sum k xs => exact h.2
def InS (owns : List Str) (ts : List (Int × Th)) : Prop := ∀ d ∈ ts, ∀ y, d.2 = Th.nam y → y ∈ owns
def InO (owns : List Str) (w : Option Str) : Prop := ∀ y, w = some y → y ∈ owns
def FinR (nms owns : List Str) : Pr → Rw → Prop
  | .own k n _, rw => (k = "take" ∧ rw = .take n) ∨ (k = "set" ∧ ∃ ts, rw = .set n ts ∧ SumOk ts ∧ InS owns ts)
  | .bring j ps _, rw => ∃ nm, nms[j]? = some nm ∧ rw = .bring nm ps
  | .give o g _, rw => rw = .give o g
  | .ask j _, rw => ∃ nm w, nms[j]? = some nm ∧ rw = .ask nm w ∧ InO owns w
  | .sum k _, rw => (k = "need" ∧ ∃ ts, rw = .need ts ∧ SumOk ts ∧ InS owns ts) ∨ (k = "say" ∧ ∃ ts w, rw = .say ts w ∧ SumOk ts ∧ InS owns ts ∧ InO owns w)
def spRow : Sp := fun vs H Q _ => ∃ (v : V) (nl : Addr) (F : Addr → Prop) (q : Q4) (pp : Pp) (pr : Pr) (i : Nat) (hs : List Pp) (nms : List Str), vs = [v, .ref q.p, .ref nl] ∧ PrAt H F v pr ∧ PpAt H F q pp ∧ PrOk hs i pr ∧ (∀ y ∈ pp.owns, NameOk y) ∧ H nl = some (.lst (nms.map V.str)) ∧ nms.length = hs.length ∧
  ∀ (r : Addr) (rw : Rw) (H' : Hp), Same H H' → RowAt H' r rw → FinR nms pp.owns pr rw → Q (.ref r) H'
theorem nx_when {t u : TT} {A R : TS} {D : Ends} {N : L2.St → Hp → Prop} {σ : L2.St} {H : Hp} {a b : Bool} (S : V → L2.St) (C : Option Str → Prop) (e : N = tSeq (tAsg (tC .non) (gName 6)) (tSeq (tIfS (tAnd t u) A tNext) R) D) (e6 : σ.set 6 (some .non) = S .non) (ht : ∀ Q : Bool → Hp → Prop, (∀ H1, Same H H1 → Q a H1) → t (S .non) H Q) (hu : ∀ H1, Same H H1 → ∀ Q : Bool → Hp → Prop, Q b H1 → u (S .non) H1 Q)
    (hA : ∀ H1, Same H H1 → (a && b) = true → (∀ y, C (some y) → R D (S (.str y)) H1) → A { D with nx := R D } (S .non) H1) (hC : C none) (hR : ∀ w H1, C w → Same H H1 → R D (S (optV w)) H1) : N σ H := by
  rw [e]
  show tIfS (tAnd t u) A tNext { D with nx := R D } (σ.set 6 (some .non)) H
  rw [e6]
  refine ht _ fun H1 s1 => ?_
  cases a with
  | false => exact iteF (iteF (hR none H1 hC s1))
  | true =>
    refine iteT (hu H1 s1 _ ?_)
    cases b with
    | false => exact iteF (hR none H1 hC s1)
    | true => exact iteT (hA H1 s1 rfl fun y hy => hR (some y) H1 hy s1)
theorem ok_row (T : Txt K mg) : L2.Cl P w K mg base 2 "_law_row" ["_law_row_here", "_law_part", "_law_names"] spRow := by
  have C_law_sum := ok_sum (P := P) (w := w) (base := base) T
  refine Cl.of T.d_law_row sc_law_row (fun vs H Q E h => ?_) (fun _ _ _ _ _ _ us hl => match us, hl with | [_, _, _], _ => rfl) (fun f cdv A' outer s H vs Q E hr h => ?_)
  · obtain ⟨v, nl, F, q, pp, pr, i, hs, nms, rfl, _⟩ := h
    rfl
  · obtain ⟨v, nl, F, q4, pp, pr, i, hs, nms, rfl, hpr, hpp, hok, hon, hnl, hnl2, q⟩ := h
    have hu0 := Nat.lt_of_succ_lt (hu_of hr)
    obtain ⟨t, x, one, rfl, ht, hx, hone⟩ := pr_parts hpr
    obtain ⟨h6, hb⟩ := prOk_xs hok
    have R := xs_rng h6 hb
    refine ⟨_, (pss_cons (ps_asg (pv 0) (pg_tup rfl (pgs_cons (pg_name (i := 3) sc_law_row.nd rfl (Or.inl rfl)) (pgs_cons (pg_name (i := 4) sc_law_row.nd rfl (Or.inl rfl)) (pgs_cons (pg_name (i := 5) sc_law_row.nd rfl (Or.inl rfl)) pgs_nil)))))
      (pss_cons (ps_set (i := 6) sc_law_row.nd rfl (Or.inl rfl) pe_non)
      (pss_cons (ps_if (PW.pt (pw_and (pt_cmpR (op_neL_nil hu0) (pe_ix ix_list (pv 1) pe_int (fun _ _ => rfl)) (pe_lst pa_nil) (nomark _)) (pw_and1 (pt_cmpR op_eq (pe_op op_mod (pe_op op_fdiv (pe_ix ix_list (pv 5) pe_int (fun _ _ => rfl)) pe_int) pe_int) pe_int (nomark _)))))
        (pss_one (ps_set (i := 6) sc_law_row.nd rfl (Or.inl rfl) (pe_ix ix_list (pe_ix ix_list (pv 1) pe_int (fun _ _ => rfl)) (pe_op op_mod (pe_op op_fdiv (pe_ix ix_list (pv 5) pe_int (fun _ _ => rfl)) pe_int) (pe_callB call_len_seq (by rfl) T.n_len PySem.boot_len (pa_cons (pe_ix ix_list (pv 1) pe_int (fun _ _ => rfl)) pa_nil))) (fun _ _ => rfl)))) pss_nil)
      (pss_cons (ps_if (pt_cmpR op_eq (pv 3) pe_str (nomark _))
        (pss_one (ps_ret (pe_tup (pa_cons pe_str (pa_cons (pv 4) pa_nil))))) pss_nil)
      (pss_cons (ps_if (pt_cmpR op_eq (pv 3) pe_str (nomark _))
        (pss_one (ps_ret (pe_tup (pa_cons pe_str (pa_cons (pe_ix ix_list (pv 2) (pe_ix ix_tup (pv 4) pe_int (fun _ _ => rfl)) (fun _ _ => rfl)) (pa_cons (pe_ix ix_tup (pv 4) pe_int (fun _ _ => rfl)) pa_nil)))))) pss_nil)
      (pss_cons (ps_if (pt_cmpR op_eq (pv 3) pe_str (nomark _))
        (pss_one (ps_ret (pe_tup (pa_cons pe_str (pa_cons (pe_ix ix_tup (pv 4) pe_int (fun _ _ => rfl)) (pa_cons (pe_ix ix_tup (pv 4) pe_int (fun _ _ => rfl)) pa_nil)))))) pss_nil)
      (pss_cons (ps_if (pt_cmpR op_eq (pv 3) pe_str (nomark _))
        (pss_one (ps_ret (pe_tup (pa_cons pe_str (pa_cons (pe_ix ix_list (pv 2) (pv 4) (fun _ _ => rfl)) (pa_cons (pv 6) pa_nil)))))) pss_nil)
      (pss_cons (ps_set (i := 7) sc_law_row.nd rfl (Or.inl rfl) (pe_fn C_law_sum hr (by rfl) (pa_cons (pe_ix ix_list (pv 1) pe_int (fun _ _ => rfl)) (pa_cons (pv 5) pa_nil))))
      (pss_cons (ps_if (pt_cmpR op_eq (pv 3) pe_str (nomark _))
        (pss_one (ps_ret (pe_tup (pa_cons pe_str (pa_cons (pv 4) (pa_cons (pv 7) pa_nil)))))) pss_nil)
      (pss_cons (ps_if (pt_cmpR op_eq (pv 3) pe_str (nomark _))
        (pss_one (ps_ret (pe_tup (pa_cons pe_str (pa_cons (pv 7) pa_nil))))) pss_nil)
      (pss_one (ps_ret (pe_tup (pa_cons pe_str (pa_cons (pv 7) (pa_cons (pv 6) pa_nil)))))))))))))))), ?_⟩
    refine ⟨_, rfl, t, _, rfl, SqT.of ht, rfl, _, _, rfl, _, _, rfl, _, _, rfl, rfl, ?_⟩
    apply nx_when (S := fun v => [some (.ref t), some (.ref q4.p), some (.ref nl), some (.str (kindP pr)), some one, some (.ref x), some v, none]) (C := InO pp.owns) (a := !(pp.owns.map V.str).isEmpty) (b := decide ((xsP pr).getD (1 : Int).toNat 0 / 2 % 2 = 1))
    · with_reducible_and_instances rfl
    · rfl
    · exact fun Q' h => ⟨_, rfl, q4.p, _, _, _, rfl, rfl, SqL.of hpp.p, rfl, (by show 0 ≤ sizeLine; decide), fun e he => ⟨q4.o, e, _, rfl, rfl, SqL.of (((Same.refl H).new he) _ _ hpp.o), SqL.of upd_same, _, rfl, h _ ((Same.refl H).new he)⟩⟩
    · intro H1 s1 Q' h
      refine ⟨_, rfl, x, _, _, _, rfl, rfl, SqL.of (s1 _ _ hx), atI_map V.int (xsP pr) 0 (by decide) (by omega), _, _, rfl, rfl, ⟨by decide, by decide⟩, _, _, rfl, rfl, (by show (0 : Int) < 2; decide), rfl, _, rfl, ?_⟩
      have e : decide (V.int ((xsP pr).getD (1 : Int).toNat 0 / 2 % 2) = V.int 1) = decide ((xsP pr).getD (1 : Int).toNat 0 / 2 % 2 = 1) := by
        by_cases z : (xsP pr).getD (1 : Int).toNat 0 / 2 % 2 = 1
        · rw [z]; rfl
        · rw [decide_eq_false z, decide_eq_false (fun y => z (V.int.inj y))]
      rw [e]
      exact h
    · intro H1 s1 hc hN
      simp only [Bool.and_eq_true] at hc
      have hop : 0 < ((pp.owns.map V.str).length : Int) := by
        cases e : pp.owns.map V.str with
        | nil => rw [e] at hc; exact absurd hc.1 (by decide)
        | cons a r => rw [List.length_cons]; omega
      have hL : ((pp.owns.map V.str).length : Int) = pp.owns.length := by rw [List.length_map]
      have hd0 : 0 ≤ (xsP pr).getD (2 : Int).toNat 0 / 32 % ((pp.owns.map V.str).length : Int) := Int.emod_nonneg _ (by omega)
      have hd1 : (xsP pr).getD (2 : Int).toNat 0 / 32 % ((pp.owns.map V.str).length : Int) < (pp.owns.length : Int) := by rw [← hL]; exact Int.emod_lt_of_pos _ hop
      have hym : pp.owns.getD ((xsP pr).getD (2 : Int).toNat 0 / 32 % ((pp.owns.map V.str).length : Int)).toNat "" ∈ pp.owns := by
        have hlt : ((xsP pr).getD (2 : Int).toNat 0 / 32 % ((pp.owns.map V.str).length : Int)).toNat < pp.owns.length := by omega
        rw [List.getD_eq_getElem?_getD, List.getElem?_eq_getElem hlt]
        exact List.getElem_mem hlt
      refine ⟨_, rfl, q4.p, _, _, _, rfl, rfl, SqL.of (s1 _ _ hpp.p), rfl, _, rfl, x, _, _, _, rfl, rfl, SqL.of (s1 _ _ hx), atI_map V.int (xsP pr) 0 (by decide) (by omega), _, _, rfl, rfl, ⟨by decide, by decide⟩, ?_⟩
      refine ⟨_, rfl, q4.p, _, _, _, rfl, rfl, SqL.of (s1 _ _ hpp.p), rfl, q4.o, _, rfl, .inl (SqL.of (s1 _ _ hpp.o)), _, _, rfl, rfl, hop, q4.o, _, _, _, rfl, rfl, SqL.of (s1 _ _ hpp.o), atI_map V.str pp.owns "" hd0 hd1, ?_⟩
      exact hN _ fun y hy => by cases hy; exact hym
    · exact fun y hy => by cases hy
    · intro w H1 hw s1
      cases pr with
      | own k n xs =>
        have hone' : one = .str n := hone
        subst hone'
        rcases hok.1 with hk | hk
        · subst hk
          refine ⟨_, rfl, rfl, _, rfl, iteSN (show ¬ ("set" : Str) = "take" by decide +kernel) ?_⟩
          refine ⟨_, rfl, rfl, _, rfl, iteSN (show ¬ ("set" : Str) = "bring" by decide +kernel) ?_⟩
          refine ⟨_, rfl, rfl, _, rfl, iteSN (show ¬ ("set" : Str) = "give" by decide +kernel) ?_⟩
          refine ⟨_, rfl, rfl, _, rfl, iteSN (show ¬ ("set" : Str) = "ask" by decide +kernel) ?_⟩
          refine ⟨_, rfl, q4.p, _, _, _, rfl, rfl, SqL.of (s1 _ _ hpp.p), rfl, _, rfl, ?_⟩
          refine ⟨q4.o, x, pp.owns, xs, rfl, s1 _ _ hpp.o, hon, s1 _ _ hx, h6, hb, fun tt ts H2 s2 hts hso hin => ?_⟩
          refine ⟨_, rfl, rfl, _, rfl, iteSE ?_⟩
          refine ⟨_, rfl, _, rfl, (by show 3 ≤ sizeLine; decide), fun r hr' => ?_⟩
          exact q r (.set n ts) _ ((s1.trans s2).new hr') ⟨tt, upd_same, hts.mono (Tups.new hr')⟩ (.inr ⟨rfl, ts, rfl, hso, hin⟩)
        · subst hk
          refine ⟨_, rfl, rfl, _, rfl, iteSE ?_⟩
          refine ⟨_, rfl, (by show 2 ≤ sizeLine; decide), fun r hr' => ?_⟩
          exact q r (.take n) _ (s1.new hr') upd_same (.inl ⟨rfl, rfl⟩)
      | bring j ps xs =>
        obtain ⟨u, qq, hone', hu', hps⟩ := hone
        subst hone'
        obtain ⟨nm, hnm⟩ : ∃ nm, nms[j]? = some nm := ⟨nms[j]'(by rw [hnl2]; exact hok.1), by simp [hnl2, hok.1]⟩
        have mj : (nms.map V.str)[j]? = some (.str nm) := by rw [List.getElem?_map, hnm]; rfl
        refine ⟨_, rfl, rfl, _, rfl, iteSN (show ¬ ("bring" : Str) = "take" by decide +kernel) ?_⟩
        refine ⟨_, rfl, rfl, _, rfl, iteSE ?_⟩
        refine ⟨_, rfl, _, rfl, u, _, _, _, rfl, rfl, SqT.of (s1 _ _ hu'), rfl, nl, _, _, _, rfl, rfl, SqL.of (s1 _ _ hnl), atI_nat mj, _, rfl, u, _, _, _, rfl, rfl, SqT.of (s1 _ _ hu'), rfl, (by show 3 ≤ sizeLine; decide), fun r hr' => ?_⟩
        exact q r (.bring nm ps) _ (s1.new hr') ⟨qq, upd_same, hps.mono (s1.new hr').tups⟩ ⟨nm, hnm, rfl⟩
      | give o g xs =>
        obtain ⟨u, hone', hu'⟩ := hone
        subst hone'
        refine ⟨_, rfl, rfl, _, rfl, iteSN (show ¬ ("give" : Str) = "take" by decide +kernel) ?_⟩
        refine ⟨_, rfl, rfl, _, rfl, iteSN (show ¬ ("give" : Str) = "bring" by decide +kernel) ?_⟩
        refine ⟨_, rfl, rfl, _, rfl, iteSE ?_⟩
        refine ⟨_, rfl, u, _, _, _, rfl, rfl, SqT.of (s1 _ _ hu'), rfl, _, rfl, u, _, _, _, rfl, rfl, SqT.of (s1 _ _ hu'), rfl, (by show 3 ≤ sizeLine; decide), fun r hr' => ?_⟩
        exact q r (.give o g) _ (s1.new hr') upd_same rfl
      | ask j xs =>
        have hone' : one = .int j := hone
        subst hone'
        obtain ⟨nm, hnm⟩ : ∃ nm, nms[j]? = some nm := ⟨nms[j]'(by rw [hnl2]; exact hok.1), by simp [hnl2, hok.1]⟩
        have mj : (nms.map V.str)[j]? = some (.str nm) := by rw [List.getElem?_map, hnm]; rfl
        refine ⟨_, rfl, rfl, _, rfl, iteSN (show ¬ ("ask" : Str) = "take" by decide +kernel) ?_⟩
        refine ⟨_, rfl, rfl, _, rfl, iteSN (show ¬ ("ask" : Str) = "bring" by decide +kernel) ?_⟩
        refine ⟨_, rfl, rfl, _, rfl, iteSN (show ¬ ("ask" : Str) = "give" by decide +kernel) ?_⟩
        refine ⟨_, rfl, rfl, _, rfl, iteSE ?_⟩
        refine ⟨_, rfl, _, rfl, nl, _, _, _, rfl, rfl, SqL.of (s1 _ _ hnl), atI_nat mj, _, rfl, (by show 3 ≤ sizeLine; decide), fun r hr' => ?_⟩
        exact q r (.ask nm w) _ (s1.new hr') upd_same ⟨nm, w, hnm, rfl, hw⟩
      | sum k xs =>
        have hone' : one = .non := hone
        subst hone'
        rcases hok.1 with hk | hk
        · subst hk
          refine ⟨_, rfl, rfl, _, rfl, iteSN (show ¬ ("say" : Str) = "take" by decide +kernel) ?_⟩
          refine ⟨_, rfl, rfl, _, rfl, iteSN (show ¬ ("say" : Str) = "bring" by decide +kernel) ?_⟩
          refine ⟨_, rfl, rfl, _, rfl, iteSN (show ¬ ("say" : Str) = "give" by decide +kernel) ?_⟩
          refine ⟨_, rfl, rfl, _, rfl, iteSN (show ¬ ("say" : Str) = "ask" by decide +kernel) ?_⟩
          refine ⟨_, rfl, q4.p, _, _, _, rfl, rfl, SqL.of (s1 _ _ hpp.p), rfl, _, rfl, ?_⟩
          refine ⟨q4.o, x, pp.owns, xs, rfl, s1 _ _ hpp.o, hon, s1 _ _ hx, h6, hb, fun tt ts H2 s2 hts hso hin => ?_⟩
          refine ⟨_, rfl, rfl, _, rfl, iteSN (show ¬ ("say" : Str) = "set" by decide +kernel) ?_⟩
          refine ⟨_, rfl, rfl, _, rfl, iteSN (show ¬ ("say" : Str) = "need" by decide +kernel) ?_⟩
          refine ⟨_, rfl, _, rfl, (by show 3 ≤ sizeLine; decide), fun r hr' => ?_⟩
          exact q r (.say ts w) _ ((s1.trans s2).new hr') ⟨tt, upd_same, hts.mono (Tups.new hr')⟩ (.inr ⟨rfl, ts, w, rfl, hso, hin, hw⟩)
        · subst hk
          refine ⟨_, rfl, rfl, _, rfl, iteSN (show ¬ ("need" : Str) = "take" by decide +kernel) ?_⟩
          refine ⟨_, rfl, rfl, _, rfl, iteSN (show ¬ ("need" : Str) = "bring" by decide +kernel) ?_⟩
          refine ⟨_, rfl, rfl, _, rfl, iteSN (show ¬ ("need" : Str) = "give" by decide +kernel) ?_⟩
          refine ⟨_, rfl, rfl, _, rfl, iteSN (show ¬ ("need" : Str) = "ask" by decide +kernel) ?_⟩
          refine ⟨_, rfl, q4.p, _, _, _, rfl, rfl, SqL.of (s1 _ _ hpp.p), rfl, _, rfl, ?_⟩
          refine ⟨q4.o, x, pp.owns, xs, rfl, s1 _ _ hpp.o, hon, s1 _ _ hx, h6, hb, fun tt ts H2 s2 hts hso hin => ?_⟩
          refine ⟨_, rfl, rfl, _, rfl, iteSN (show ¬ ("need" : Str) = "set" by decide +kernel) ?_⟩
          refine ⟨_, rfl, rfl, _, rfl, iteSE ?_⟩
          refine ⟨_, rfl, (by show 2 ≤ sizeLine; decide), fun r hr' => ?_⟩
          exact q r (.need ts) _ ((s1.trans s2).new hr') ⟨tt, upd_same, hts.mono (Tups.new hr')⟩ (.inl ⟨rfl, ts, rfl, hso, hin⟩)
theorem call_tuple_ofF {X : Cx} : CallR X (.type "tuple") (fun xs H Q => ∃ p ys, xs = [.ref p] ∧ SqL X.K H p ys ∧ ∀ l o, H l = none → o.dict = none → Q (.ref l) (upd H l (.frz o (.tup ys)))) := by
  intro pins s σ H xs us Q I r h
  obtain ⟨p, ys, rfl, hq, q⟩ := h
  obtain ⟨u, rfl, rx⟩ := vals1 r
  cases rx
  obtain ⟨its, r', pl, hz⟩ := I.list hq
  have hlen := r'.length
  refine call_tuple_list pl.isList (fun h' kp => ?_) (by simp only [List.size_toArray] <;> omega)
  have I1 : Inv X pins σ H { s with heap := h' } := I.kept (t' := s.toks) kp
  have I2 : Inv X pins σ (upd H h'.objs.size (.frz { cls := .type "tuple", data := .seq its.toArray } (.tup ys))) { s with heap := h'.push { cls := .type "tuple", data := .seq its.toArray } } :=
    I1.laid (t' := s.toks) (fun b o e => Heap.get?_push_of_some _ e) (Nat.le_refl _) ⟨Heap.get?_push_size _ rfl, hz, its, r', ⟨_, Heap.get?_push_size _ rfl, rfl, _, rfl⟩⟩
  exact ⟨.ref h'.objs.size, _, I2, rfl, q _ _ (I1.hok.fresh (Nat.le_refl _)) rfl⟩
def nmsOf (b : Int) (n : Nat) : List Str := (List.range n).map fun (j : Nat) => nameM b (j : Int)
theorem nmsOf_len (b : Int) (n : Nat) : (nmsOf b n).length = n := by unfold nmsOf; simp
theorem nmsOf_succ (b : Int) (n : Nat) : nmsOf b (n + 1) = nmsOf b n ++ [nameM b (n : Int)] := by unfold nmsOf; rw [List.range_succ, List.map_append]; rfl
theorem nmsOf_get (b : Int) (n : Nat) {i : Nat} (h : i < n) : (nmsOf b n)[i]? = some (nameM b (i : Int)) := by unfold nmsOf; rw [List.getElem?_map, List.getElem?_range h]; rfl
def FinI (b : Int) (hs : List Pp) (ps : List Pt) : Prop := ∀ (i : Nat) (pp : Pp) (pt : Pt), hs[i]? = some pp → ps[i]? = some pt → pt.1 = nameM b (i : Int) ∧ Paired (FinR (nmsOf b hs.length) pp.owns) pp.rows pt.2
def spFinished : Sp := fun vs H Q _ => ∃ (l : Addr) (A : List Q4) (hs : List Pp) (b0 b1 b : Int), vs = [.ref l, .int b] ∧ HouseAt H l A [] hs ∧ (0 ≤ b ∧ b < 2147483647) ∧ 0 ≤ b0 ∧ 1 ≤ hs.length ∧ hs.length ≤ 24 ∧ HInv b0 b1 hs ∧ ∀ (a : Addr) (ps : List Pt) (H' : Hp), Same H H' → PartsF H' a ps → ps.length = hs.length → FinI b hs ps → Q (.ref a) H'
theorem ok_finished (T : Txt K mg) : L2.Cl P w K mg base 3 "_law_finished" ["_law_house", "_law_pool_here"] spFinished := by
  have C_law_name := ok_name (P := P) (w := w) (base := base) T
  have C_law_row := ok_row (P := P) (w := w) (base := base) T
  refine Cl.of T.d_law_finished sc_law_finished (fun vs H Q E h => ?_) (fun _ _ _ _ _ _ us hl => match us, hl with | [_, _], _ => rfl) (fun f cdv A' outer s H vs Q E hr h => ?_)
  · obtain ⟨l, A, hs, b0, b1, b, rfl, _⟩ := h
    rfl
  · obtain ⟨l, A, hs, b0, b1, b, rfl, hh, hb, hb0, hs1, hs2, hI, q⟩ := h
    refine ⟨_, (pss_cons (ps_set (i := 2) sc_law_finished.nd rfl (Or.inr rfl) (pe_comp (M := ["_law_k", "_law_pool_here"]) (ρ := [none, some 1]) (defScope s_law_finished) ["_law_house", "_law_pool_here", "_law_names", "_law_parts_here", "_law_name_here", "_law_part"] ⟨rfl, by decide +kernel, by decide +kernel, by decide +kernel, rfl, by decide +kernel, by decide +kernel⟩ (pi_range1 (by rfl) T.n_range (pa_cons (pe_callB call_len_seq (by rfl) T.n_len PySem.boot_len (pa_cons (pv 0) pa_nil)) pa_nil)) (fun _ _ _ _ _ _ => (pg_name (i := 0) (show (["_law_k", "_law_pool_here"] : List Str).Nodup by decide +kernel) rfl (Or.inl rfl))) (fun _ _ _ _ _ _ => pts_nil) (fun _ _ _ _ _ _ => (pe_fn C_law_name hr (by rfl) (pa_cons (pv 1) (pa_cons (pv 0) pa_nil))))))
      (pss_cons (ps_set (i := 3) sc_law_finished.nd rfl (Or.inl rfl) (pe_lst pa_nil))
      (pss_cons (ps_for PassesOwn.never rfl (pi_zipL (by rfl) T.n_zip (pa_cons (pv 2) (pa_cons (pv 0) pa_nil))) (pg_tup rfl (pgs_cons (pg_name (i := 4) sc_law_finished.nd rfl (Or.inl rfl)) (pgs_cons (pg_name (i := 5) sc_law_finished.nd rfl (Or.inr rfl)) pgs_nil)))
        (pss_one (ps_expr (pe_bm PySem.F.plainAttrs_list PySem.F.slot_list_append PySem.F.type_list_append mt_append (pv 3) (pa_cons (pe_tup (pa_cons (pv 4) (pa_cons (pe_callTy call_tuple_of (by rfl) T.n_tuple boot_tuple (pa_cons (pe_comp (M := ["_law_row_here", "_law_part", "_law_names"]) (ρ := [none, some 5, some 2]) (defScope s_law_finished) ["_law_house", "_law_pool_here", "_law_names", "_law_parts_here", "_law_name_here", "_law_part"] ⟨rfl, by decide +kernel, by decide +kernel, by decide +kernel, rfl, by decide +kernel, by decide +kernel⟩ (pi_list (pe_ix ix_list (pv 5) pe_int (fun _ _ => rfl))) (fun _ _ _ _ _ _ => (pg_name (i := 0) (show (["_law_row_here", "_law_part", "_law_names"] : List Str).Nodup by decide +kernel) rfl (Or.inl rfl))) (fun _ _ _ _ _ _ => pts_nil) (fun _ _ _ _ _ _ => (pe_fn C_law_row hr (by rfl) (pa_cons (pv 0) (pa_cons (pv 1) (pa_cons (pv 2) pa_nil)))))) pa_nil)) pa_nil))) pa_nil)))))
      (pss_one (ps_ret (pe_callTy call_tuple_ofF (by rfl) T.n_tuple boot_tuple (pa_cons (pv 3) pa_nil))))))), ?_⟩
    have hAn : (A.map fun q => V.ref q.p).length = hs.length := by rw [List.length_map, hh.len]
    refine ⟨_, rfl, l, _, rfl, .inl (SqL.of hh.ll), _, rfl, (by omega), (by omega), fun D hD => ?_⟩
    refine comp_by (A.map fun q => V.ref q.p).length (fun i σ H2 => ∃ v0 : Option V, σ = [v0, some (.int b)] ∧ Same H H2 ∧ H2 D = some (.lst ((nmsOf b i).map V.str))) ⟨_, rfl, (Same.refl H).new hD, upd_same⟩ ?_ ?_
    · rintro i σ H2 hi ⟨v0, rfl, s2, hD2⟩
      refine ⟨hi, ?_⟩
      rintro x H3 ⟨rfl, rfl⟩
      refine ntG ?_
      refine ⟨_, rfl, _, rfl, b, _, rfl, hb.1, hb.2, by omega, by omega, fun H4 s4 => ?_⟩
      refine ⟨_, s4 _ _ hD2, small1000 (by rw [List.length_map, nmsOf_len]; omega), _, rfl, (s2.trans s4).put hD, ?_⟩
      rw [upd_same, nmsOf_succ, List.map_append, Int.zero_add]
      rfl
    · rintro σ H2 ⟨v0, rfl, s2, hD2⟩
      refine ⟨Nat.le_refl _, ?_⟩
      rw [hAn] at hD2
      refine ⟨(by show 0 ≤ sizeLine; decide), fun d hd => ?_⟩
      have s3 : Same H (upd H2 d (.lst [])) := s2.new hd
      have hD3 : upd H2 d (.lst []) D = some (.lst ((nmsOf b hs.length).map V.str)) := upd_keep hD2 hd
      have hdH : H d = none := s2.free hd
      have hDd : D ≠ d := fun z => by rw [z, hd] at hD2; cases hD2
      have hll : ∀ {H' : Hp}, Same H H' → H' l = some (.lst (A.map fun q => V.ref q.p)) := fun s => s _ _ hh.ll
      refine ⟨_, rfl, _, rfl, D, l, rfl, ⟨_, SqL.of hD3⟩, ⟨_, SqL.of (hll s3)⟩, for_zipL (K := K) (a := D) (b := l) (xs := (nmsOf b hs.length).map V.str) (ys := A.map fun q => V.ref q.p) (fun i σ H5 => ∃ (ps : List Pt) (vs : List V) (v4 v5 : Option V), σ = [some (.ref l), some (.int b), some (.ref D), some (.ref d), v4, v5] ∧ Same H H5 ∧ H5 D = some (.lst ((nmsOf b hs.length).map V.str)) ∧ H5 d = some (.lst vs) ∧ Paired (PartAt H5) vs ps ∧ ps.length = i ∧ FinI b hs ps)
        (by rw [hAn, List.length_map, nmsOf_len]) ⟨[], [], none, none, rfl, s3, hD3, upd_same, .nil, rfl, fun i pp pt _ e => by simp at e⟩ (fun i σ H5 _ ⟨_, _, _, _, _, s5, hD5, _⟩ => ⟨SqL.of hD5, SqL.of (hll s5)⟩) ?_ ?_⟩
      · rintro i x y p σ H5 hx hy ⟨ps, vs, v4, v5, rfl, s5, hD5, hd5, hps, hlen, hfin⟩ hp
        have hi : i < hs.length := by
          have := (List.getElem?_eq_some_iff.mp hy).1
          omega
        obtain ⟨pp, ei⟩ : ∃ pp, hs[i]? = some pp := ⟨hs[i], by simp [hi]⟩
        obtain ⟨qi, eqi⟩ : ∃ q, A[i]? = some q := ⟨A[i]'(by rw [hh.len]; exact hi), by simp [hh.len, hi]⟩
        have ex : x = .str (nameM b (i : Int)) := by
          rw [List.getElem?_map, nmsOf_get b _ hi] at hx
          exact (Option.some.inj hx).symm
        have ey : y = .ref qi.p := by
          rw [List.getElem?_map, eqi] at hy
          exact (Option.some.inj hy).symm
        subst ex ey
        have OK := hI i pp ei
        obtain ⟨n, hn, hn23⟩ := OK.n
        have hon : ∀ y ∈ pp.owns, NameOk y := by rw [hn]; exact drawnN_ok hb0
        have s6 : Same H5 (upd H5 p (.tup [.str (nameM b (i : Int)), .ref qi.p])) := (Same.refl H5).new hp
        refine ⟨p, _, rfl, SqT.of upd_same, rfl, _, _, rfl, _, _, rfl, rfl, ?_⟩
        generalize upd H5 p (.tup [.str (nameM b (i : Int)), .ref qi.p]) = H6 at s6 ⊢
        have s06 := s5.trans s6
        have h6 := hh.same s06
        have P6 := h6.pt i qi pp eqi ei
        obtain ⟨rv, hrv, hrp⟩ := P6.r
        have hrl : rv.length = pp.rows.length := Paired.length hrp
        have h40 := OK.r
        refine ⟨_, rfl, .inl ⟨rfl, _, SqL.of (s6 _ _ hd5)⟩, _, rfl, _, rfl, qi.p, _, _, _, rfl, rfl, SqL.of P6.p, rfl, qi.r, rfl, ⟨_, SqL.of hrv⟩, fun D2 hD2 => ?_⟩
        refine comp_by rv.length (fun j σ H7 => ∃ (v0 : Option V) (us : List V) (rws : List Rw), σ = [v0, some (.ref qi.p), some (.ref D)] ∧ Same H6 H7 ∧ H7 D2 = some (.lst us) ∧ RowsAt H7 us rws ∧ rws.length = j ∧ Paired (FinR (nmsOf b hs.length) pp.owns) (pp.rows.take j) rws) ⟨_, [], [], rfl, (Same.refl H6).new hD2, upd_same, .nil, rfl, by rw [List.take_zero]; exact .nil⟩ ?_ ?_
        · rintro j σ H7 hj ⟨v0, us, rws, rfl, s7, hD7, hrs, hrwl, hfr⟩
          refine ⟨⟨rv, rv[j], SqL.of (s7 _ _ hrv), by simp⟩, ?_⟩
          rintro v H8 ⟨rfl, hv⟩
          have hv' := hv _ (SqL.of (s7 _ _ hrv))
          obtain ⟨pr, hpr, hprat⟩ := Paired.get? hrp hv'
          have h7 := h6.same s7
          have P7 := h7.pt i qi pp eqi ei
          refine ntG ?_
          refine ⟨_, rfl, _, rfl, _, rfl, ?_⟩
          refine ⟨v, D, inH l A [], qi, pp, pr, i, hs, nmsOf b hs.length, rfl, hprat.keep s7.tups (fun a as ha hva => ⟨s7 _ _ hva, ha⟩), P7, OK.ok pr (List.mem_of_getElem? hpr), hon, s7 _ _ (s6 _ _ hD5), nmsOf_len _ _, fun r rw H9 s8 hrow hfin8 => ?_⟩
          have hul : us.length = rws.length := Paired.length hrs
          refine ⟨us, s8 _ _ hD7, small1000 (by omega), ?_⟩
          have T8 : Tups H8 (upd H9 D2 (.lst (us ++ [.ref r]))) := s8.tups.trans (Tups.lst (s8 _ _ hD7))
          have T9 : Tups H9 (upd H9 D2 (.lst (us ++ [.ref r]))) := Tups.lst (s8 _ _ hD7)
          refine ⟨_, us ++ [.ref r], rws ++ [rw], rfl, (s7.trans s8).put hD2, upd_same, Paired.snoc (hrs.mono T8) ⟨r, rfl, hrow.mono T9⟩, by rw [List.length_append, hrwl]; rfl, ?_⟩
          rw [take_succ_get hpr]
          exact Paired.snoc hfr hfin8
        · rintro σ H7 ⟨v0, us, rws, rfl, s7, hD7, hrs, hrwl, hfr⟩
          refine ⟨⟨rv, SqL.of (s7 _ _ hrv), Nat.le_refl _⟩, ?_⟩
          rw [hrl, List.take_length] at hfr
          refine ⟨D2, _, rfl, .inl ⟨SqL.of hD7, fun u hu => ?_⟩⟩
          have s8 : Same H7 (upd H7 u (.tup us)) := (Same.refl H7).new hu
          refine ⟨(by show 2 ≤ sizeLine; decide), fun tp htp => ?_⟩
          have s9 := s8.new (o := .tup [.str (nameM b (i : Int)), .ref u]) htp
          have s59 : Same H5 (upd (upd H7 u (.tup us)) tp (.tup [.str (nameM b (i : Int)), .ref u])) := (s6.trans s7).trans s9
          refine ⟨d, _, _, rfl, rfl, s59 _ _ hd5, small1000 (by rw [Paired.length hps, hlen]; omega), ?_⟩
          have hd9 := s59 _ _ hd5
          have T9 := Tups.lst (ys := vs ++ [.ref tp]) hd9
          have hne : ∀ {c : Addr} {ws : List V}, (upd (upd H7 u (.tup us)) tp (.tup [.str (nameM b (i : Int)), .ref u])) c = some (.tup ws) → c ≠ d := fun {c ws} e z => by rw [z, hd9] at e; cases e
          refine ⟨ps ++ [(nameM b (i : Int), rws)], vs ++ [.ref tp], _, _, rfl, (s5.trans s59).put hdH, ?_, upd_same, Paired.snoc (Paired.mapP hps fun _ _ z => z.mono (s59.tups.trans T9)) ⟨tp, u, us, rfl, T9 _ _ upd_same, T9 _ _ (upd_keep upd_same htp), (hrs.mono (s9.tups.trans T9))⟩, by rw [List.length_append, hlen]; rfl, ?_⟩
          · rw [upd_ne hDd]
            exact s59 _ _ hD5
          · intro i' pp' pt' e1 e2
            by_cases hlt : i' < ps.length
            · rw [List.getElem?_append_left hlt] at e2
              exact hfin i' pp' pt' e1 e2
            · rw [List.getElem?_append_right (by omega)] at e2
              have h0 : i' - ps.length = 0 := by
                have := (List.getElem?_eq_some_iff.mp e2).1
                simp only [List.length_singleton] at this
                omega
              rw [h0] at e2
              simp only [List.getElem?_cons_zero, Option.some.injEq] at e2
              have hii : i' = i := by omega
              subst hii
              rw [ei] at e1
              cases e1
              rw [← e2]
              exact ⟨rfl, hfr⟩
      · rintro σ H5 ⟨ps, vs, v4, v5, rfl, s5, hD5, hd5, hps, hlen, hfin⟩
        rw [List.length_map, nmsOf_len] at hlen
        refine ⟨_, rfl, d, _, rfl, SqL.of hd5, fun a o ha ho => ?_⟩
        have s6 : Same H5 (upd H5 a (.frz o (.tup vs))) := (Same.refl H5).new ha
        exact q a ps _ (s5.trans s6) ⟨o, vs, upd_same, ho, Paired.mapP hps fun _ _ z => z.mono s6.tups⟩ hlen hfin
theorem house_free {H : Hp} {l x : Addr} {A : List Q4} {hs : List Pp} (h : HouseAt H l A [] hs) (hx : H x = none) : ¬ inH l A [] x := by
  rintro (z | z | ⟨i, q, y, e, hy, z⟩)
  · rw [z, h.ll] at hx; cases hx
  · simp at z
  · obtain ⟨xs, hxs⟩ := h.there e hy
    rw [z, hx] at hxs; cases hxs
theorem keep_same {H H1 H2 : Hp} {l : Addr} {A : List Q4} (n : New H l A) (s : Same H H1) (k : KeepH l A H1 H2) : Same H H2 := fun a o e => by
  refine k a o ?_ (s _ _ e)
  rintro (z | z | ⟨i, q, y, e1, hy, z⟩)
  · rw [z, n.1] at e; cases e
  · simp at z
  · rw [← z, n.2 i q y e1 hy] at e; cases e
theorem bare_inv {b0 b1 : Int} {hs : List Pp} (h : Bare hs) : HInv b0 b1 hs := fun i pp e => by
  obtain ⟨h1, h2, h3, _⟩ := h pp (List.mem_of_getElem? e)
  refine ⟨⟨0, by rw [h2]; rfl, by omega⟩, ⟨0, by rw [h3]; rfl, by omega⟩, by rw [h1]; simp, by rw [h1, h2]; exact List.Perm.refl _, by rw [h1, h3]; exact List.Perm.refl _, fun pr hpr => by rw [h1] at hpr; simp at hpr⟩
/-- parts as the law draws them -/
structure DrawnP (hs : List Pp) (b0 b1 b2 : Int) (ps : List Pt) : Prop where
  r0 : 0 ≤ b0 ∧ b0 < 2147483647
  r1 : 0 ≤ b1 ∧ b1 < 2147483647
  r2 : 0 ≤ b2 ∧ b2 < 2147483647
  lo : 1 ≤ hs.length
  hi : hs.length ≤ 24
  inv : HInv b0 b1 hs
  len : ps.length = hs.length
  fin : FinI b2 hs ps
def spLawParts (K : PySem.W.Frag) : Sp := fun vs H Q _ => ∃ (a : Addr) (ns : List Int), vs = [.ref a] ∧ SqL K H a (ns.map V.int) ∧ ns.length ≤ 1000 ∧ ∀ (x : Addr) (hs : List Pp) (b0 b1 b2 : Int) (ps : List Pt) (H' : Hp), Same H H' → PartsF H' x ps → DrawnP hs b0 b1 b2 ps → Q (.ref x) H'
theorem ok_parts (T : Txt K mg) : L2.Cl P w K mg base 5 "_law_parts" ["_law_script"] (spLawParts K) := by
  have C_law_cell_at := ok_cell (P := P) (w := w) (base := base) T
  have C_law_stream := ok_stream (P := P) (w := w) (base := base) T
  have C_law_begun := ok_begun (P := P) (w := w) (base := base) T
  have C_law_pools := ok_pools (P := P) (w := w) (base := base) T
  have C_law_added := ok_added (P := P) (w := w) (base := base) T
  have C_law_finished := ok_finished (P := P) (w := w) (base := base) T
  refine Cl.of T.d_law_parts sc_law_parts (fun vs H Q E h => ?_) (fun _ _ _ _ _ _ us hl => match us, hl with | [_], _ => rfl) (fun f cdv A' outer s H vs Q E hr h => ?_)
  · obtain ⟨a, ns, rfl, _⟩ := h
    rfl
  · obtain ⟨a, ns, rfl, hS, hnl, q⟩ := h
    refine ⟨_, (pss_cons (ps_set (i := 1) sc_law_parts.nd rfl (Or.inl rfl) (pe_fn C_law_begun hr (by rfl) (pa_cons (pv 0) pa_nil)))
      (pss_cons (ps_set (i := 2) sc_law_parts.nd rfl (Or.inl rfl) (pe_fn C_law_pools hr (by rfl) (pa_cons (pv 0) pa_nil)))
      (pss_cons (ps_for PassesOwn.never rfl (pi_range2 (by rfl) T.n_range (pa_cons pe_int (pa_cons (pe_callB (call_min2 rfl) (by rfl) T.n_min boot_min (pa_cons (pe_callB (call_max2 rfl) (by rfl) T.n_max boot_max (pa_cons (pe_callB call_len_seq (by rfl) T.n_len PySem.boot_len (pa_cons (pv 0) pa_nil)) (pa_cons pe_int pa_nil))) (pa_cons pe_int pa_nil))) pa_nil))) (pg_name (i := 3) sc_law_parts.nd rfl (Or.inl rfl))
        (pss_one (ps_expr (pe_fn C_law_added hr (by rfl) (pa_cons (pv 1) (pa_cons (pv 2) (pa_cons (pe_fn C_law_stream hr (by rfl) (pa_cons (pe_fn C_law_cell_at hr (by rfl) (pa_cons (pv 0) (pa_cons (pv 3) pa_nil))) (pa_cons (pv 3) pa_nil))) pa_nil)))))))
      (pss_one (ps_ret (pe_fn C_law_finished hr (by rfl) (pa_cons (pv 1) (pa_cons (pe_ix ix_list (pv 2) pe_int (fun _ _ => rfl)) pa_nil)))))))), ?_⟩
    refine ⟨_, rfl, a, ns, rfl, hS, fun l A hs H1 s1 hh hnew hs1 hs2 hbare => ?_⟩
    refine ⟨_, rfl, a, ns, rfl, s1.seq hS, fun pl b0 b1 b2 H2 s2 hpl0 hpl r0 r1 r2 => ?_⟩
    have hP : PoolsAt H2 pl l A b0 b1 b2 := ⟨hpl, house_free hh hpl0, r0, r1, r2⟩
    have s12 := s1.trans s2
    have hJ : ∀ M : Int, (if (83 : Int) < M then (83 : Int) else M) ≤ 83 := fun M => by split <;> omega
    have hJ0 : (13 : Int) ≤ (if (83 : Int) < (if (13 : Int) > ((ns.map V.int).length : Int) then 13 else ((ns.map V.int).length : Int)) then (83 : Int) else (if (13 : Int) > ((ns.map V.int).length : Int) then 13 else ((ns.map V.int).length : Int))) := by split <;> split <;> omega
    refine ⟨_, rfl, a, _, rfl, .inl (s12.seq hS), _, _, rfl, _, _, rfl, ?_⟩
    have hJ1 := hJ (if (13 : Int) > ((ns.map V.int).length : Int) then 13 else ((ns.map V.int).length : Int))
    generalize (if (83 : Int) < (if (13 : Int) > ((ns.map V.int).length : Int) then 13 else ((ns.map V.int).length : Int)) then (83 : Int) else (if (13 : Int) > ((ns.map V.int).length : Int) then 13 else ((ns.map V.int).length : Int))) = J at hJ0 hJ1 ⊢
    refine ⟨_, _, rfl, ⟨by omega, by omega, by omega, by omega⟩, for_range (fun i σ H3 => ∃ (hs' : List Pp) (v3 : Option V), σ = [some (.ref a), some (.ref l), some (.ref pl), v3] ∧ HouseAt H3 l A [] hs' ∧ hs'.length = hs.length ∧ HInv b0 b1 hs' ∧ KeepH l A H2 H3)
      ⟨hs, none, rfl, hh.same s2, rfl, bare_inv hbare, KeepH.refl l A H2⟩ ?_ ?_⟩
    · rintro i σ H3 hi ⟨hs', v3, rfl, h3, hl3, hI3, k3⟩
      have S3 := keep_same hnew s12 k3
      refine ⟨_, rfl, _, rfl, _, rfl, _, rfl, a, ns, _, rfl, S3.seq hS, (by omega), fun c => ?_⟩
      refine ⟨_, rfl, c, _, rfl, (by omega), (by omega), fun x xs H4 s4 hx0 hx hx6 hxb => ?_⟩
      refine ⟨l, pl, x, A, hs', b0, b1, b2, xs, rfl, h3.same s4, hP.keep (k3.same s4), ⟨hx, house_free h3 hx0⟩, ⟨hx6, hxb⟩, by omega, by omega, hI3, fun hs5 H5 h5 hl5 hI5 k5 => ?_⟩
      exact ⟨hs5, _, rfl, h5, by omega, hI5, (k3.same s4).trans k5⟩
    · rintro σ H3 ⟨hs', v3, rfl, h3, hl3, hI3, k3⟩
      have S3 := keep_same hnew s12 k3
      refine ⟨_, rfl, _, rfl, pl, _, _, _, rfl, rfl, SqL.of (hP.keep k3).h, rfl, ?_⟩
      refine ⟨l, A, hs', b0, b1, b2, rfl, h3, r2, r0.1, by omega, by omega, hI3, fun x ps H4 s4 hp hpl hf => ?_⟩
      exact q x hs' b0 b1 b2 ps H4 (S3.trans s4) hp ⟨r0, r1, r2, by omega, by omega, hI3, hpl, hf⟩
def spLaw (K : PySem.W.Frag) : Sp := fun vs H Q _ => ∃ (a : Addr) (ns : List Int), vs = [.ref a] ∧ SqL K H a (ns.map V.int) ∧ ns.length ≤ 63 ∧ ∀ H', Q (.bl true) H'
theorem DrawnP.at {hs : List Pp} {b0 b1 b2 : Int} {ps : List Pt} (d : DrawnP hs b0 b1 b2 ps) {i : Nat} {pt : Pt} (e : ps[i]? = some pt) : ∃ pp, hs[i]? = some pp ∧ PpOk b0 b1 hs i pp ∧ pt.1 = nameM b2 (i : Int) ∧ Paired (FinR (nmsOf b2 hs.length) pp.owns) pp.rows pt.2 := by
  have hi : i < hs.length := by rw [← d.len]; exact (List.getElem?_eq_some_iff.mp e).1
  have e2 : hs[i]? = some hs[i] := by simp [hi]
  exact ⟨hs[i], e2, d.inv i _ e2, d.fin i _ _ e2 e⟩
theorem DrawnP.names {hs : List Pp} {b0 b1 b2 : Int} {ps : List Pt} (d : DrawnP hs b0 b1 b2 ps) : ps.map (·.1) = nmsOf b2 hs.length := by
  apply List.ext_getElem?
  intro i
  rw [List.getElem?_map]
  cases e : ps[i]? with
  | none =>
    have h := List.getElem?_eq_none_iff.mp e
    exact (List.getElem?_eq_none_iff.mpr (by rw [nmsOf_len, ← d.len]; exact h)).symm
  | some pt =>
    obtain ⟨pp, _, _, h, _⟩ := d.at e
    have hi : i < hs.length := by rw [← d.len]; exact (List.getElem?_eq_some_iff.mp e).1
    rw [nmsOf_get b2 _ hi]
    exact congrArg some h
theorem nmsOf_nodup {b : Int} (hb : 0 ≤ b) {n : Nat} (hn : n ≤ 24) : (nmsOf b n).Nodup := by
  unfold nmsOf
  rw [List.nodup_iff_pairwise_ne, List.pairwise_map]
  refine List.Pairwise.imp_of_mem (fun {i j} hi hj hne h => hne ?_) List.nodup_range
  have h1 := List.mem_range.mp hi
  have h2 := List.mem_range.mp hj
  have := nameM_inj hb (by omega) (by omega) (by omega) (by omega) h
  omega
theorem DrawnP.nodup {hs : List Pp} {b0 b1 b2 : Int} {ps : List Pt} (d : DrawnP hs b0 b1 b2 ps) : (ps.map (·.1)).Nodup := by
  rw [d.names]
  exact nmsOf_nodup d.r2.1 d.hi
theorem DrawnP.rows {hs : List Pp} {b0 b1 b2 : Int} {ps : List Pt} (d : DrawnP hs b0 b1 b2 ps) {i : Nat} {pt : Pt} (e : ps[i]? = some pt) : pt.2.length ≤ 40 := by
  obtain ⟨pp, _, h1, _, h2⟩ := d.at e
  rw [← Paired.length h2]
  exact h1.r
theorem nodup_lenG {α : Type} [DecidableEq α] : ∀ (l N : List α), l.Nodup → (∀ x ∈ l, x ∈ N) → l.length ≤ N.length
  | [], N, _, _ => Nat.zero_le _
  | a :: r, N, hn, hs => by
    rw [List.nodup_cons] at hn
    have ha : a ∈ N := hs a List.mem_cons_self
    have h1 := nodup_lenG r (N.erase a) hn.2 fun x hx => (List.mem_erase_of_ne (fun z => hn.1 (by rw [← z]; exact hx))).mpr (hs x (List.mem_cons_of_mem _ hx))
    rw [List.length_erase_of_mem ha] at h1
    have : 0 < N.length := List.length_pos_of_mem ha
    simp only [List.length_cons]; omega
theorem setD_val (l : List Str) (x : Str) : valV (setD l) (Sum.inr x) = if x ∈ l then some (.bl true) else none := by
  induction l with
  | nil => rfl
  | cons a r ih =>
    have e : setD (a :: r) = (Sum.inr a, .bl true) :: setD r := rfl
    rw [e]
    by_cases h : a = x
    · subst h
      rw [valV_pos rfl, if_pos List.mem_cons_self]
    · rw [valV_neg (fun z => h (Sum.inr.inj z)), ih]
      by_cases hm : x ∈ r
      · rw [if_pos hm, if_pos (List.mem_cons_of_mem _ hm)]
      · rw [if_neg hm, if_neg (fun z => by rcases List.mem_cons.mp z with y | y; exact h y.symm; exact hm y)]
theorem setD_some (l : List Str) (x : Str) : (valV (setD l) (Sum.inr x)).isSome = decide (x ∈ l) := by
  rw [setD_val]
  by_cases h : x ∈ l
  · rw [if_pos h, decide_eq_true h]; rfl
  · rw [if_neg h, decide_eq_false h]; rfl
theorem addN_mem (l : List Str) (x y : Str) : y ∈ addN l x ↔ y ∈ l ∨ y = x := by
  unfold addN
  by_cases h : x ∈ l
  · rw [if_pos h]
    exact ⟨.inl, fun z => by rcases z with z | z; exact z; rw [z]; exact h⟩
  · rw [if_neg h, List.mem_append, List.mem_singleton]
structure PsFit (ps : List Pt) : Prop where
  nd : (ps.map (·.1)).Nodup
  hi : ps.length ≤ 24
  rows : ∀ pt ∈ ps, pt.2.length ≤ 40
theorem DrawnP.fit {hs : List Pp} {b0 b1 b2 : Int} {ps : List Pt} (d : DrawnP hs b0 b1 b2 ps) : PsFit ps := ⟨d.nodup, by rw [d.len]; exact d.hi, fun pt hpt => by
  obtain ⟨i, hi⟩ := List.getElem?_of_mem hpt
  exact d.rows hi⟩
theorem g_while {c : TT} {tb R : TS} {D : Ends} {N : L2.St → Hp → Prop} {i : Nat} {v : V} {σ : L2.St} {H : Hp} (e : N = tSeq (tWhile c tb) R D) (h : tWhile c tb { D with nx := R D } (σ.set i (some v)) H) : gName i v σ H N := by
  show N (σ.set i (some v)) H
  rw [e]
  exact h
theorem nx_set_while {c : TT} {tb R : TS} {D : Ends} {N : L2.St → Hp → Prop} {i : Nat} {v : V} {σ : L2.St} {H : Hp} (e : N = tSeq (tAsg (tC v) (gName i)) (tSeq (tWhile c tb) R) D) (h : tWhile c tb { D with nx := R D } (σ.set i (some v)) H) : N σ H := by
  rw [e]
  exact h
theorem nx_set_while1 {c : TT} {tb : TS} {D : Ends} {N : L2.St → Hp → Prop} {i : Nat} {v : V} {σ : L2.St} {H : Hp} (e : N = tSeq (tAsg (tC v) (gName i)) (tWhile c tb) D) (h : tWhile c tb D (σ.set i (some v)) H) : N σ H := by
  rw [e]
  exact h
theorem addN_nodup {l : List Str} (h : l.Nodup) (x : Str) : (addN l x).Nodup := by
  unfold addN
  by_cases hx : x ∈ l
  · rw [if_pos hx]; exact h
  · rw [if_neg hx]
    refine List.nodup_append.mpr ⟨h, by simp, fun a ha b hb z => ?_⟩
    rw [List.mem_singleton.mp hb] at z
    exact hx (by rw [← z]; exact ha)
theorem mem_fold (k m : Str) : ∀ (rs : List Rw) (l : List Str), m ∈ rs.foldl (stepN k) l ↔ m ∈ l ∨ ∃ r ∈ rs, namesIt k r = some m
  | [], l => by simp
  | r :: rs, l => by
    rw [List.foldl_cons, mem_fold k m rs]
    have h : m ∈ stepN k l r ↔ m ∈ l ∨ namesIt k r = some m := by
      unfold stepN
      cases e : namesIt k r with
      | none => simp
      | some x =>
        show m ∈ addN l x ↔ _
        rw [addN_mem]
        simp only [Option.some.injEq]
        exact ⟨fun z => by rcases z with z | z; exact .inl z; exact .inr z.symm, fun z => by rcases z with z | z; exact .inl z; exact .inr z.symm⟩
    rw [h]
    simp only [List.mem_cons, exists_eq_or_imp, or_assoc]
theorem mem_namedOf (k m : Str) (rs : List Rw) : m ∈ namedOf k rs ↔ ∃ r ∈ rs, namesIt k r = some m := by
  unfold namedOf
  rw [mem_fold]
  simp
def muS (f wl : Addr) (H : Hp) : Nat := match H f, H wl with
  | some (.dK kvs), some (.lst W) => (50 - kvs.length) * 101 + W.length
  | _, _ => 0
theorem muS_eq {f wl : Addr} {H : Hp} {l W : List Str} (h1 : H f = some (.dK (setD l))) (h2 : H wl = some (.lst (W.map V.str))) : muS f wl H = (50 - l.length) * 101 + W.length := by
  unfold muS
  rw [h1, h2]
  simp only [setD_len, List.length_map]
theorem strs_drop (W : List Str) : (W.map V.str).dropLast = W.dropLast.map V.str := by
  rw [List.map_dropLast]
theorem fin_named {nms owns : List Str} {pr : Pr} {rw : Rw} {m : Str} (h : FinR nms owns pr rw) (hm : namesIt "bring" rw = some m ∨ namesIt "ask" rw = some m) : m ∈ nms := by
  have nb : ∀ p ps, (namesIt "bring" (.bring p ps) = some m ∨ namesIt "ask" (.bring p ps) = some m) → m = p := fun p ps z => by
    rcases z with z | z
    · have e1 : namesIt "bring" (.bring p ps) = some p := by simp [namesIt]
      rw [e1] at z
      exact (Option.some.inj z).symm
    · have e2 : namesIt "ask" (.bring p ps) = none := by
        show (if ("bring" : Str) = "ask" then some p else none) = none
        rw [if_neg (by decide +kernel)]
      rw [e2] at z
      cases z
  have na : ∀ p o, (namesIt "bring" (.ask p o) = some m ∨ namesIt "ask" (.ask p o) = some m) → m = p := fun p o z => by
    rcases z with z | z
    · have e2 : namesIt "bring" (.ask p o) = none := by
        show (if ("ask" : Str) = "bring" then some p else none) = none
        rw [if_neg (by decide +kernel)]
      rw [e2] at z
      cases z
    · have e1 : namesIt "ask" (.ask p o) = some p := by simp [namesIt]
      rw [e1] at z
      exact (Option.some.inj z).symm
  have no : ∀ r, namesIt "bring" r = none → namesIt "ask" r = none → r = rw → False := fun r h1 h2 e => by
    subst e
    rcases hm with z | z
    · rw [h1] at z; cases z
    · rw [h2] at z; cases z
  cases pr with
  | own k n xs =>
    rcases h with ⟨_, e⟩ | ⟨_, ts, e, _⟩
    · exact (no _ rfl rfl e.symm).elim
    · exact (no _ rfl rfl e.symm).elim
  | bring j ps xs =>
    obtain ⟨nm, h1, e⟩ := h
    subst e
    rw [nb _ _ hm]
    exact List.mem_of_getElem? h1
  | give o g xs => exact (no _ rfl rfl (show rw = .give o g from h).symm).elim
  | ask j xs =>
    obtain ⟨nm, w, h1, e, _⟩ := h
    subst e
    rw [na _ _ hm]
    exact List.mem_of_getElem? h1
  | sum k xs =>
    rcases h with ⟨_, ts, e, _⟩ | ⟨_, ts, w, e, _⟩
    · exact (no _ rfl rfl e.symm).elim
    · exact (no _ rfl rfl e.symm).elim
/-! ### the order in which parts begin -/
inductive Dfs (k : Str → List Str) : List Str → List Str → List Str → Prop where
  | nil {V : List Str} : Dfs k V [] V
  | old {V r R : List Str} {n : Str} : n ∈ V → Dfs k V r R → Dfs k V (n :: r) R
  | new {V r R : List Str} {n : Str} : n ∉ V → Dfs k (V ++ [n]) (k n ++ r) R → Dfs k V (n :: r) R
inductive Sim : List Str → List Str → List Str → Prop where
  | nil {V : List Str} : Sim V [] []
  | both {V l l' : List Str} {n : Str} : Sim (V ++ [n]) l l' → Sim V (n :: l) (n :: l')
  | skip {V l l' : List Str} {n : Str} : n ∈ V → Sim V l l' → Sim V l (n :: l')
theorem Sim.mono {V l l' : List Str} (h : Sim V l l') : ∀ {V' : List Str}, (∀ x ∈ V, x ∈ V') → Sim V' l l' := by
  induction h with
  | nil => intro V' _; exact .nil
  | both _ ih =>
    intro V' hs
    refine .both (ih fun x hx => ?_)
    rcases List.mem_append.mp hx with z | z
    · exact List.mem_append_left _ (hs x z)
    · exact List.mem_append_right _ z
  | skip hm _ ih => intro V' hs; exact .skip (hs _ hm) (ih hs)
theorem Sim.app {V a a' : List Str} (h : Sim V a a') : ∀ {b b' : List Str}, Sim V b b' → Sim V (a ++ b) (a' ++ b') := by
  induction h with
  | nil => intro b b' h2; exact h2
  | both _ ih => intro b b' h2; exact .both (ih (h2.mono fun x hx => List.mem_append_left _ hx))
  | skip hm _ ih => intro b b' h2; exact .skip hm (ih h2)
theorem Sim.inv {V l l' : List Str} (h : Sim V l l') : ∀ n r, l = n :: r → ∃ pre l2, l' = pre ++ n :: l2 ∧ (∀ x ∈ pre, x ∈ V) ∧ Sim (V ++ [n]) r l2 := by
  induction h with
  | nil => intro n r e; cases e
  | both s _ => intro n r e; cases e; exact ⟨[], _, rfl, fun x hx => by simp at hx, s⟩
  | skip hm _ ih =>
    intro n r e
    obtain ⟨pre, l2, e2, h1, h2⟩ := ih n r e
    refine ⟨_ :: pre, l2, by rw [e2]; rfl, fun x hx => ?_, h2⟩
    rcases List.mem_cons.mp hx with z | z
    · rw [z]; exact hm
    · exact h1 x z
theorem Sim.inv0 {V l l' : List Str} (h : Sim V l l') : l = [] → ∀ x ∈ l', x ∈ V := by
  induction h with
  | nil => intro _ x hx; simp at hx
  | both _ _ => intro e; cases e
  | skip hm _ ih =>
    intro e x hx
    rcases List.mem_cons.mp hx with z | z
    · rw [z]; exact hm
    · exact ih e x z
theorem Dfs.olds {k : Str → List Str} {V l R : List Str} (h : Dfs k V l R) : ∀ {pre : List Str}, (∀ x ∈ pre, x ∈ V) → Dfs k V (pre ++ l) R
  | [], _ => h
  | y :: r, hs => .old (hs y List.mem_cons_self) (Dfs.olds h fun x hx => hs x (List.mem_cons_of_mem _ hx))
theorem Dfs.sim {k k' : Str → List Str} (hk : ∀ n V, Sim V (k n) (k' n)) {V l R : List Str} (h : Dfs k V l R) : ∀ {l' : List Str}, Sim V l l' → Dfs k' V l' R := by
  induction h with
  | nil =>
    intro l' s
    have h1 := Dfs.olds (k := k') (R := _) (.nil) (s.inv0 rfl)
    rw [List.append_nil] at h1
    exact h1
  | old hm _ ih =>
    intro l' s
    obtain ⟨pre, l2, e, h1, h2⟩ := s.inv _ _ rfl
    subst e
    refine Dfs.olds (.old hm (ih (h2.mono fun x hx => ?_))) h1
    rcases List.mem_append.mp hx with z | z
    · exact z
    · rw [List.mem_singleton.mp z]; exact hm
  | new hn _ ih =>
    intro l' s
    obtain ⟨pre, l2, e, h1, h2⟩ := s.inv _ _ rfl
    subst e
    exact Dfs.olds (.new hn (ih (Sim.app (hk _ _) h2))) h1
theorem Dfs.det {k : Str → List Str} {V l R : List Str} (h : Dfs k V l R) : ∀ {R' : List Str}, Dfs k V l R' → R = R' := by
  induction h with
  | nil => intro R' h'; cases h'; rfl
  | old hm _ ih =>
    intro R' h'
    cases h' with
    | old _ h2 => exact ih h2
    | new hn _ => exact absurd hm hn
  | new hn _ ih =>
    intro R' h'
    cases h' with
    | old hm _ => exact absurd hm hn
    | new _ h2 => exact ih h2
theorem fold_sim (k : Str) : ∀ (rs : List Rw) (acc : List Str), ∃ D, rs.foldl (stepN k) acc = acc ++ D ∧ ∀ V, (∀ x ∈ acc, x ∈ V) → Sim V D (rs.filterMap (namesIt k))
  | [], acc => ⟨[], by simp, fun V _ => .nil⟩
  | r :: rs, acc => by
    rw [List.foldl_cons]
    unfold stepN
    cases e : namesIt k r with
    | none =>
      obtain ⟨D, h1, h2⟩ := fold_sim k rs acc
      refine ⟨D, h1, fun V hV => ?_⟩
      rw [List.filterMap_cons_none e]
      exact h2 V hV
    | some x =>
      show ∃ D, rs.foldl (stepN k) (addN acc x) = acc ++ D ∧ _
      unfold addN
      by_cases hx : x ∈ acc
      · rw [if_pos hx]
        obtain ⟨D, h1, h2⟩ := fold_sim k rs acc
        refine ⟨D, h1, fun V hV => ?_⟩
        rw [List.filterMap_cons_some e]
        exact .skip (hV x hx) (h2 V hV)
      · rw [if_neg hx]
        obtain ⟨D, h1, h2⟩ := fold_sim k rs (acc ++ [x])
        refine ⟨x :: D, by rw [h1, List.append_assoc]; rfl, fun V hV => ?_⟩
        rw [List.filterMap_cons_some e]
        refine .both (h2 _ fun y hy => ?_)
        rcases List.mem_append.mp hy with z | z
        · exact List.mem_append_left _ (hV y z)
        · exact List.mem_append_right _ z
def rowsOf (ps : List Pt) (n : Str) : List Rw := ((ps.find? fun p => decide (p.1 = n)).map (·.2)).getD []
theorem rowsOf_eq : ∀ {ps : List Pt} {n : Str} {rs : List Rw}, (ps.map (·.1)).Nodup → (n, rs) ∈ ps → rowsOf ps n = rs
  | [], n, rs, _, h => by simp at h
  | p :: ps, n, rs, hn, h => by
    rw [List.map_cons, List.nodup_cons] at hn
    rcases List.mem_cons.mp h with e | e
    · unfold rowsOf
      rw [List.find?_cons_of_pos (by rw [← e]; simp), ← e]; rfl
    · have hne : ¬ p.1 = n := fun z => hn.1 (by rw [z]; exact List.mem_map_of_mem (f := (·.1)) e)
      have := rowsOf_eq hn.2 e
      unfold rowsOf at this ⊢
      rw [List.find?_cons_of_neg (by simpa using hne)]
      exact this
def k1 (ps : List Pt) (n : Str) : List Str := namedOf "bring" (rowsOf ps n)
def k2 (ps : List Pt) (n : Str) : List Str := (rowsOf ps n).filterMap (namesIt "bring")
theorem k12 (ps : List Pt) (n : Str) (V : List Str) : Sim V (k1 ps n) (k2 ps n) := by
  obtain ⟨D, h1, h2⟩ := fold_sim "bring" (rowsOf ps n) []
  have e : k1 ps n = D := by
    unfold k1 namedOf
    rw [h1]
    rfl
  rw [e]
  exact h2 V fun x hx => by simp at hx
def ClosedB (ps : List Pt) : Prop := ∀ n ∈ ps.map (·.1), ∀ m ∈ k1 ps n, m ∈ ps.map (·.1)
theorem part_of {ps : List Pt} {n : Str} (h : n ∈ ps.map (·.1)) : ∃ rs, (n, rs) ∈ ps := by
  obtain ⟨p, hp, e⟩ := List.mem_map.mp h
  exact ⟨p.2, by rw [← e]; exact hp⟩
theorem DrawnP.closedB {hs : List Pp} {b0 b1 b2 : Int} {ps : List Pt} (d : DrawnP hs b0 b1 b2 ps) : ClosedB ps := fun n hn m hm => by
  obtain ⟨rs, hmem⟩ := part_of hn
  unfold k1 at hm
  rw [rowsOf_eq d.nodup hmem] at hm
  obtain ⟨r, hr, e⟩ := (mem_namedOf "bring" m rs).mp hm
  obtain ⟨i, hi⟩ := List.getElem?_of_mem hmem
  obtain ⟨pp, _, _, _, h2⟩ := d.at hi
  obtain ⟨j, hj⟩ := List.getElem?_of_mem hr
  obtain ⟨pr, _, hf⟩ := Paired.get?' h2 hj
  rw [d.names]
  exact fin_named hf (.inl e)
def spOrder : Sp := fun vs H Q _ => ∃ (a : Addr) (ps : List Pt) (n : Str), vs = [.ref a, .str n] ∧ PartsF H a ps ∧ PsFit ps ∧ ClosedB ps ∧ n ∈ ps.map (·.1) ∧ ∀ (p : Addr) (R : List Str) (H' : Hp), Same H H' → H' p = some (.tup (R.map V.str)) → Dfs (k1 ps) [] [n] R → Q (.ref p) H'
theorem ok_order (T : Txt K mg) : L2.Cl P w K mg base 3 "order" ["parts", "root"] spOrder := by
  have C_brings := ok_brings (P := P) (w := w) (base := base) T
  refine Cl.of T.d_order sc_order (fun vs H Q E h => ?_) (fun _ _ _ _ _ _ us hl => match us, hl with | [_, _], _ => rfl) (fun fa cdv A outer s H vs Q E hr h => ?_)
  · obtain ⟨a, ps, n, rfl, _⟩ := h
    rfl
  · obtain ⟨a, ps, root, rfl, hpf, hfit, hcl, hroot, q⟩ := h
    have hu := hu_of hr
    have hN : (ps.map (·.1)).length ≤ 24 := by rw [List.length_map]; exact hfit.hi
    refine ⟨_, (pss_cons (ps_set (i := 2) sc_order.nd rfl (Or.inl rfl) pe_dnewK)
      (pss_cons (ps_set (i := 3) sc_order.nd rfl (Or.inl rfl) (pe_lst (pa_cons (pv 1) pa_nil)))
      (pss_cons (ps_while PassesOwn.never (pt_truth (pv 3) (fun _ => rfl))
        (pss_cons (ps_set (i := 4) sc_order.nd rfl (Or.inl rfl) (pe_bm0 PySem.F.plainAttrs_list PySem.F.slot_list_pop PySem.F.type_list_pop mt_pop (pv 3)))
        (pss_one (ps_if (pt_cmp (pc_dnotin hu (pv 4) (pv 2)))
          (pss_cons (ps_dput hu (pv 2) (pv 4) pe_bl rfl)
          (pss_one (ps_expr (pe_bm PySem.F.plainAttrs_list PySem.F.slot_list_extend PySem.F.type_list_extend mt_extend (pv 3) (pa_cons (pe_lrev rfl (pe_fn C_brings hr (by rfl) (pa_cons (pv 0) (pa_cons (pv 4) pa_nil))) (by rfl) T.n_list (by rfl) T.n_reversed) pa_nil))))) pss_nil))))
      (pss_one (ps_ret (pe_callTy (call_tupleD rfl) (by rfl) T.n_tuple boot_tuple (pa_cons (pv 2) pa_nil))))))), ?_⟩
    intro f gf
    have s1 : Same H (upd H f (.dK [])) := (Same.refl H).new gf
    refine ⟨_, rfl, (by show 1 ≤ sizeLine; decide), fun wl gw => ?_⟩
    have s2 : Same H (upd (upd H f (.dK [])) wl (.lst [.str root])) := s1.new gw
    have hfw : f ≠ wl := ne_of_none (upd_same (H := H) (a := f) (o := .dK [])) gw
    have gwH : H wl = none := s1.free gw
    apply g_while
    · with_reducible_and_instances rfl
    refine while_by (fun σ H2 => ∃ (l W : List Str) (v4 : Option V), σ = [some (.ref a), some (.str root), some (.ref f), some (.ref wl), v4] ∧ Same H H2 ∧ H2 f = some (.dK (setD l)) ∧ H2 wl = some (.lst (W.map V.str)) ∧ l.Nodup ∧ (∀ n ∈ l, n ∈ ps.map (·.1)) ∧ (∀ n ∈ W, n ∈ ps.map (·.1)) ∧ W.length + (50 - l.length) * 101 ≤ 6000 ∧ ∀ R, Dfs (k1 ps) l W.reverse R → Dfs (k1 ps) [] [root] R) (fun _ H2 => muS f wl H2)
      ⟨[], [root], none, rfl, s2, by rw [upd_ne hfw, upd_same]; rfl, upd_same, List.nodup_nil, fun n hn => by simp at hn, fun n hn => by rw [List.mem_singleton.mp hn]; exact hroot, by simp only [List.length_nil, List.length_singleton]; omega, fun R h => h⟩ ?_ ?_
    · rintro σ H2 ⟨l, W, v4, rfl, s3, hf, hw, hnd, hlN, hWN, hbd, hD⟩
      refine ⟨_, rfl, _, .inl ⟨_, SqL.of hw, rfl⟩, ?_⟩
      have hll := nodup_lenG l _ hnd hlN
      cases hW : W.getLast? with
      | none =>
        have hWe : W = [] := List.getLast?_eq_none_iff.mp hW
        subst hWe
        refine iteF ?_
        refine ⟨_, rfl, f, _, rfl, .inl hf, fun p gp => ?_⟩
        rw [setD_keys]
        exact q p l _ (s3.new gp) upd_same (hD l .nil)
      | some x =>
        have hne : W ≠ [] := fun z => by rw [z] at hW; simp at hW
        have hWd : W = W.dropLast ++ [x] := by
          obtain ⟨ys, hys⟩ := List.getLast?_eq_some_iff.mp hW
          rw [hys, List.dropLast_concat]
        have hxW : x ∈ W := by rw [hWd]; simp
        have hpos : 0 < W.length := List.length_pos_of_mem hxW
        have hrev : W.reverse = x :: W.dropLast.reverse := by
          conv => lhs; rw [hWd]
          rw [List.reverse_append]
          rfl
        rw [show (!(W.map V.str).isEmpty) = true by cases W with | nil => exact absurd rfl hne | cons _ _ => rfl]
        refine iteT ?_
        have hlast : (W.map V.str)[(W.map V.str).length - 1]? = some (.str x) := by
          rw [List.getElem?_map, List.length_map, ← List.getLast?_eq_getElem?, hW]; rfl
        refine ⟨_, rfl, .inl ⟨rfl, _, SqL.of hw⟩, wl, _, _, rfl, rfl, hw, hlast, ?_⟩
        rw [strs_drop]
        have s4 : Same H (upd H2 wl (.lst (W.dropLast.map V.str))) := s3.put gwH
        have hf4 : upd H2 wl (.lst (W.dropLast.map V.str)) f = some (.dK (setD l)) := by rw [upd_ne hfw]; exact hf
        have hw4 : upd H2 wl (.lst (W.dropLast.map V.str)) wl = some (.lst (W.dropLast.map V.str)) := upd_same
        have hmu := muS_eq hf hw
        generalize upd H2 wl (.lst (W.dropLast.map V.str)) = H4 at s4 hf4 hw4 ⊢
        have hdl : W.dropLast.length = W.length - 1 := List.length_dropLast
        have hmemW : ∀ n, n ∈ W ↔ n ∈ W.dropLast ∨ n = x := fun n => by
          conv => lhs; rw [hWd]
          rw [List.mem_append, List.mem_singleton]
        refine ⟨_, rfl, _, rfl, f, _, rfl, DGet.k (k := Sum.inr x) hf4, ?_⟩
        refine ⟨_, rfl, ?_⟩
        rw [setD_some]
        by_cases hx : x ∈ l
        · rw [decide_eq_true hx]
          refine iteF ?_
          refine ⟨⟨l, W.dropLast, _, rfl, s4, hf4, hw4, hnd, hlN, fun n hn => hWN n ((hmemW n).mpr (.inl hn)), by omega, fun R h => hD R ?_⟩, ?_⟩
          · rw [hrev]; exact .old hx h
          · show muS f wl H4 < muS f wl H2
            rw [muS_eq hf4 hw4, hmu]
            omega
        · rw [decide_eq_false hx]
          refine iteT ?_
          have hxN : x ∈ ps.map (·.1) := hWN x hxW
          have hadd : addN l x = l ++ [x] := by unfold addN; rw [if_neg hx]
          have hnd' : (addN l x).Nodup := addN_nodup hnd x
          have hlN' : ∀ n ∈ addN l x, n ∈ ps.map (·.1) := fun n hn => by
            rcases (addN_mem l x n).mp hn with z | z
            · exact hlN n z
            · rw [z]; exact hxN
          have hll' := nodup_lenG _ _ hnd' hlN'
          rw [hadd, List.length_append, List.length_singleton] at hll'
          refine ⟨_, rfl, _, rfl, f, _, rfl, DPut.k (k := Sum.inr x) hf4 (small1000 (by rw [setD_len]; omega)), ?_⟩
          rw [setD_put]
          have s5 : Same H (upd H4 f (.dK (setD (addN l x)))) := s4.put gf
          have hf5 : upd H4 f (.dK (setD (addN l x))) f = some (.dK (setD (addN l x))) := upd_same
          have hw5 : upd H4 f (.dK (setD (addN l x))) wl = some (.lst (W.dropLast.map V.str)) := by rw [upd_ne hfw.symm]; exact hw4
          generalize upd H4 f (.dK (setD (addN l x))) = H5 at s5 hf5 hw5 ⊢
          obtain ⟨rs, hmem⟩ := part_of hxN
          have hr40 : rs.length ≤ 40 := hfit.rows _ hmem
          have hhi := hfit.hi
          refine ⟨_, rfl, .inl ⟨rfl, _, SqL.of hw5⟩, _, rfl, _, rfl, a, ps, x, rs, rfl, s5.partsF hpf, hfit.nd, hmem, by omega, by omega, fun p H6 s6 hp => ?_⟩
          have hk1 : namedOf "bring" rs = k1 ps x := by unfold k1; rw [rowsOf_eq hfit.nd hmem]
          rw [hk1] at hp
          have hkl : (k1 ps x).length ≤ 40 := by
            have h1 := namedOf_len "bring" rs []
            rw [← hk1]
            unfold namedOf
            simp only [List.length_nil] at h1
            omega
          refine ⟨p, _, rfl, SqT.of hp, fun c gc => ?_⟩
          rw [← List.map_reverse]
          have hw6 := s6 _ _ hw5
          have hf6 := s6 _ _ hf5
          have hwc : wl ≠ c := fun z => by rw [z, gc] at hw6; cases hw6
          have hfc : f ≠ c := fun z => by rw [z, gc] at hf6; cases hf6
          refine ⟨wl, c, _, _, rfl, rfl, upd_keep hw6 gc, upd_same, Nat.le_of_lt (by
            have : sizeLine = 16777216 := sizeLine_eq
            rw [List.length_map, List.length_map, List.length_reverse]; omega), ?_⟩
          rw [← List.map_append]
          have s7 : Same H (upd (upd H6 c (.lst ((k1 ps x).reverse.map V.str))) wl (.lst ((W.dropLast ++ (k1 ps x).reverse).map V.str))) := ((s5.trans s6).new gc).put gwH
          have hf7 : upd (upd H6 c (.lst ((k1 ps x).reverse.map V.str))) wl (.lst ((W.dropLast ++ (k1 ps x).reverse).map V.str)) f = some (.dK (setD (addN l x))) := by rw [upd_ne hfw, upd_ne hfc]; exact hf6
          refine ⟨⟨addN l x, W.dropLast ++ (k1 ps x).reverse, _, rfl, s7, hf7, upd_same, hnd', hlN', fun n hn => ?_, ?_, fun R h => hD R ?_⟩, ?_⟩
          · rcases List.mem_append.mp hn with z | z
            · exact hWN n ((hmemW n).mpr (.inl z))
            · exact hcl x hxN n (List.mem_reverse.mp z)
          · rw [hadd, List.length_append, List.length_append, List.length_singleton, List.length_reverse]; omega
          · rw [List.reverse_append, List.reverse_reverse, hadd] at h
            rw [hrev]
            exact .new hx h
          · show muS f wl _ < muS f wl H2
            rw [muS_eq hf7 upd_same, hmu, hadd, List.length_append, List.length_append, List.length_singleton, List.length_reverse]
            omega
    · rintro σ H2 Q1 Q2 hQ ⟨v, e, b, hb, hq⟩
      exact ⟨v, e, b, hb, hQ _ _ hq⟩
/-! ### the law's walk: parts amid their rows -/
abbrev Fr2 := Str × Nat
def FrAt (b A : Addr) (H0 H : Hp) (v : V) (f : Fr2) : Prop := ∃ c, v = .ref c ∧ c ≠ b ∧ c ≠ A ∧ H0 c = none ∧ H c = some (.lst [.str f.1, .int (f.2 : Int)])
theorem fr_move {b A : Addr} {H0 H H' : Hp} : ∀ {vs : List V} {fs : List Fr2}, Paired (FrAt b A H0 H) vs fs → (∀ c, V.ref c ∈ vs → H' c = H c) → Paired (FrAt b A H0 H') vs fs
  | _, _, .nil, _ => .nil
  | _, _, .cons ⟨c, e, h1, h2, h3, h4⟩ t, k => .cons ⟨c, e, h1, h2, h3, by rw [k c (by rw [e]; exact List.mem_cons_self)]; exact h4⟩ (fr_move t fun c hc => k c (List.mem_cons_of_mem _ hc))
theorem fr_ref {b A : Addr} {H0 H : Hp} : ∀ {vs : List V} {fs : List Fr2} {c : Addr}, Paired (FrAt b A H0 H) vs fs → V.ref c ∈ vs → c ≠ b ∧ c ≠ A ∧ H0 c = none ∧ ∃ f : Fr2, H c = some (.lst [.str f.1, .int (f.2 : Int)])
  | _, _, _, .nil, h => by simp at h
  | _, _, c, .cons (b := f) ⟨c', e, h1, h2, h3, h4⟩ t, h => by
    rcases List.mem_cons.mp h with z | z
    · rw [e] at z
      cases z
      exact ⟨h1, h2, h3, f, h4⟩
    · exact fr_ref t z
theorem paired_snoc_inv {α β : Type} {F : α → β → Prop} {xs : List α} {ys : List β} {y : β} (h : Paired F xs (ys ++ [y])) : ∃ xs' x, xs = xs' ++ [x] ∧ Paired F xs' ys ∧ F x y := by
  induction ys generalizing xs with
  | nil =>
    cases h with
    | cons a t => cases t; exact ⟨[], _, rfl, .nil, a⟩
  | cons z ys ih =>
    cases h with
    | cons a t =>
      obtain ⟨xs', x, e, h1, h2⟩ := ih t
      exact ⟨_ :: xs', x, by rw [e]; rfl, .cons a h1, h2⟩
def frW (g : Str → Nat) (H : Hp) (v : V) : Nat := match v with
  | .ref c => match H c with
    | some (HO.lst [V.str n, V.int k]) => g n + 1 - k.toNat
    | _ => 0
  | _ => 0
theorem fr_sum {g : Str → Nat} {b A : Addr} {H0 H : Hp} : ∀ {vs : List V} {fs : List Fr2}, Paired (FrAt b A H0 H) vs fs → (vs.map (frW g H)).sum = (fs.map fun f => g f.1 + 1 - f.2).sum
  | _, _, .nil => rfl
  | _, _, .cons (b := f) ⟨c, e, _, _, _, h4⟩ t => by
    rw [List.map_cons, List.map_cons, List.sum_cons, List.sum_cons, fr_sum t, e]
    have : frW g H (.ref c) = g f.1 + 1 - f.2 := by
      unfold frW
      simp only [h4]
      rw [Int.toNat_natCast]
    rw [this]
def muB (g : Str → Nat) (b A : Addr) (H : Hp) : Nat := match H b, H A with
  | some (HO.lst vs), some (HO.lst cs) => (50 - vs.length) * 42 + (cs.map (frW g H)).sum
  | _, _ => 0
theorem muB_eq {g : Str → Nat} {b A : Addr} {H0 H : Hp} {W : List Str} {vs : List V} {fs : List Fr2} (h1 : H b = some (.lst (W.map V.str))) (h2 : H A = some (.lst vs)) (h3 : Paired (FrAt b A H0 H) vs fs) : muB g b A H = (50 - W.length) * 42 + (fs.map fun f => g f.1 + 1 - f.2).sum := by
  unfold muB
  rw [h1, h2]
  simp only [List.length_map]
  rw [fr_sum h3]
def restOf (ps : List Pt) (fs : List Fr2) : List Str := fs.reverse.flatMap fun f => ((rowsOf ps f.1).drop f.2).filterMap (namesIt "bring")
theorem restOf_snoc (ps : List Pt) (fs : List Fr2) (f : Fr2) : restOf ps (fs ++ [f]) = ((rowsOf ps f.1).drop f.2).filterMap (namesIt "bring") ++ restOf ps fs := by
  unfold restOf
  rw [List.reverse_append, List.flatMap_append]
  simp
theorem row_br {H : Hp} {r : Addr} {rw : Rw} (h : RowAt H r rw) : (∃ m rest, namesIt "bring" rw = some m ∧ H r = some (.tup (.str "bring" :: .str m :: rest))) ∨ (¬ kindS rw = "bring" ∧ namesIt "bring" rw = none) := by
  cases rw with
  | bring m ps => obtain ⟨t, h1, h2⟩ := h; exact .inl ⟨m, _, by simp [namesIt], h1⟩
  | ask m o => exact .inr ⟨by simp only [kindS]; decide +kernel, by show (if ("ask" : Str) = "bring" then some m else none) = none; rw [if_neg (by decide +kernel)]⟩
  | _ => exact .inr ⟨by simp only [kindS]; decide +kernel, rfl⟩
def spBegunBy : Sp := fun vs H Q _ => ∃ (d : Addr) (root : Str) (kvs : List (Key × V)) (ps : List Pt), vs = [.ref d, .str root] ∧ H d = some (.dK kvs) ∧ PsFit ps ∧ ClosedB ps ∧ (∀ n rs, (n, rs) ∈ ps → ∃ u ws, valV kvs (Sum.inr n) = some (.ref u) ∧ H u = some (.tup ws) ∧ RowsAt H ws rs) ∧ root ∈ ps.map (·.1) ∧
  ∀ (b : Addr) (R : List Str) (H' : Hp), Same H H' → H' b = some (.lst (R.map V.str)) → Dfs (k2 ps) [root] (k2 ps root) R → Q (.ref b) H'
theorem ok_begun_by (T : Txt K mg) : L2.Cl P w K mg base 1 "_law_begun_by" ["_law_rows_by", "_law_root"] spBegunBy := by
  refine Cl.of T.d_law_begun_by sc_law_begun_by (fun vs H Q E h => ?_) (fun _ _ _ _ _ _ us hl => match us, hl with | [_, _], _ => rfl) (fun fa cdv A outer s H vs Q E hr h => ?_)
  · obtain ⟨d, root, kvs, ps, rfl, _⟩ := h
    rfl
  · obtain ⟨d, root, kvs, ps, rfl, hd, hfit, hcl, hdat, hroot, q⟩ := h
    have hu := hu_of hr
    have hu0 := Nat.lt_of_succ_lt (hu_of hr)
    have hN : (ps.map (·.1)).length ≤ 24 := by rw [List.length_map]; exact hfit.hi
    have hrows : ∀ n ∈ ps.map (·.1), (rowsOf ps n).length ≤ 40 := fun n hn => by
      obtain ⟨rs, hm⟩ := part_of hn
      rw [rowsOf_eq hfit.nd hm]
      exact hfit.rows _ hm
    refine ⟨_, (pss_cons (ps_set (i := 2) sc_law_begun_by.nd rfl (Or.inl rfl) (pe_lst (pa_cons (pv 1) pa_nil)))
      (pss_cons (ps_set (i := 3) sc_law_begun_by.nd rfl (Or.inl rfl) (pe_lst (pa_cons (pe_lst (pa_cons (pv 1) (pa_cons pe_int pa_nil))) pa_nil)))
      (pss_cons (ps_while PassesOwn.never (pt_cmpR (op_neL_nil hu0) (pv 3) (pe_lst pa_nil) (nomark _))
        (pss_cons (ps_set (i := 4) sc_law_begun_by.nd rfl (Or.inl rfl) (pe_dget hu (pv 0) (pe_ix ix_list (pe_ix ix_list (pv 3) (pe_un un_neg pe_int) (fun _ _ => rfl)) pe_int (fun _ _ => rfl)) (fun _ _ => rfl)))
        (pss_cons (ps_set (i := 5) sc_law_begun_by.nd rfl (Or.inl rfl) (pe_ix ix_list (pe_ix ix_list (pv 3) (pe_un un_neg pe_int) (fun _ _ => rfl)) pe_int (fun _ _ => rfl)))
        (pss_one (ps_if (pt_cmpR op_eq (pv 5) (pe_callB call_len_seq (by rfl) T.n_len PySem.boot_len (pa_cons (pv 4) pa_nil)) (nomark _))
          (pss_one (ps_expr (pe_bm0 PySem.F.plainAttrs_list PySem.F.slot_list_pop PySem.F.type_list_pop mt_pop (pv 3)))) (pss_cons (ps_asg (pe_op op_add (pv 5) pe_int) (pg_sub (pe_ix ix_list (pv 3) (pe_un un_neg pe_int) (fun _ _ => rfl)) pe_int set_list))
          (pss_one (ps_if (PW.pt (pw_and (pt_cmpR op_eq (pe_ix ix_tup (pe_ix ix_tup (pv 4) (pv 5) (fun _ _ => rfl)) pe_int (fun _ _ => rfl)) pe_str (nomark _)) (pw_and1 (pt_cmpR op_notIn_seq (pe_ix ix_tup (pe_ix ix_tup (pv 4) (pv 5) (fun _ _ => rfl)) pe_int (fun _ _ => rfl)) (pv 2) (by with_unfolding_all rfl)))))
            (pss_cons (ps_expr (pe_bm PySem.F.plainAttrs_list PySem.F.slot_list_append PySem.F.type_list_append mt_append (pv 2) (pa_cons (pe_ix ix_tup (pe_ix ix_tup (pv 4) (pv 5) (fun _ _ => rfl)) pe_int (fun _ _ => rfl)) pa_nil)))
            (pss_one (ps_expr (pe_bm PySem.F.plainAttrs_list PySem.F.slot_list_append PySem.F.type_list_append mt_append (pv 3) (pa_cons (pe_lst (pa_cons (pe_ix ix_tup (pe_ix ix_tup (pv 4) (pv 5) (fun _ _ => rfl)) pe_int (fun _ _ => rfl)) (pa_cons pe_int pa_nil))) pa_nil))))) pss_nil))))))))
      (pss_one (ps_ret (pv 2)))))), ?_⟩
    refine ⟨_, rfl, (by show 1 ≤ sizeLine; decide), fun b gb => ?_⟩
    have s1 : Same H (upd H b (.lst [.str root])) := (Same.refl H).new gb
    refine ⟨_, rfl, (by show 2 ≤ sizeLine; decide), fun c0 gc0 => ?_⟩
    have s2 : Same H (upd (upd H b (.lst [.str root])) c0 (.lst [.str root, .int 0])) := s1.new gc0
    refine ⟨(by show 1 ≤ sizeLine; decide), fun am ga => ?_⟩
    have s3 : Same H (upd (upd (upd H b (.lst [.str root])) c0 (.lst [.str root, .int 0])) am (.lst [.ref c0])) := s2.new ga
    have hb0 : upd (upd (upd H b (.lst [.str root])) c0 (.lst [.str root, .int 0])) am (.lst [.ref c0]) b = some (.lst [.str root]) := upd_keep (upd_keep upd_same gc0) ga
    have hc0 : upd (upd (upd H b (.lst [.str root])) c0 (.lst [.str root, .int 0])) am (.lst [.ref c0]) c0 = some (.lst [.str root, .int 0]) := upd_keep upd_same ga
    have ham0 : upd (upd (upd H b (.lst [.str root])) c0 (.lst [.str root, .int 0])) am (.lst [.ref c0]) am = some (.lst [.ref c0]) := upd_same
    have hcb : c0 ≠ b := (ne_of_none (upd_same (H := H) (a := b) (o := .lst [.str root])) gc0).symm
    have hca : c0 ≠ am := ne_of_none (upd_same (H := upd H b (.lst [.str root])) (a := c0) (o := .lst [.str root, .int 0])) ga
    have hba : b ≠ am := fun z => by rw [← z] at ga; rw [upd_keep upd_same gc0] at ga; cases ga
    have gc0H : H c0 = none := s1.free gc0
    have gaH : H am = none := s2.free ga
    generalize upd (upd (upd H b (.lst [.str root])) c0 (.lst [.str root, .int 0])) am (.lst [.ref c0]) = H3 at s3 hb0 hc0 ham0 ⊢
    have k2d : ∀ n, ((rowsOf ps n).drop 0).filterMap (namesIt "bring") = k2 ps n := fun n => by rw [List.drop_zero]; rfl
    apply g_while
    · with_reducible_and_instances rfl
    refine while_by (fun σ H2 => ∃ (W : List Str) (vs : List V) (fs : List Fr2) (v4 v5 : Option V), σ = [some (.ref d), some (.str root), some (.ref b), some (.ref am), v4, v5] ∧ Same H H2 ∧ H2 b = some (.lst (W.map V.str)) ∧ H2 am = some (.lst vs) ∧ Paired (FrAt b am H H2) vs fs ∧ vs.Nodup ∧ W.Nodup ∧ (∀ n ∈ W, n ∈ ps.map (·.1)) ∧ (∀ f ∈ fs, f.1 ∈ ps.map (·.1) ∧ f.2 ≤ (rowsOf ps f.1).length) ∧ vs.length ≤ W.length ∧ ∀ R, Dfs (k2 ps) W (restOf ps fs) R → Dfs (k2 ps) [root] (k2 ps root) R) (fun _ H2 => muB (fun n => (rowsOf ps n).length) b am H2)
      ⟨[root], [.ref c0], [(root, 0)], none, none, rfl, s3, hb0, ham0, .cons ⟨c0, rfl, hcb, hca, gc0H, hc0⟩ .nil, by simp, by simp, fun n hn => by rw [List.mem_singleton.mp hn]; exact hroot, fun f hf => by rw [List.mem_singleton.mp hf]; exact ⟨hroot, Nat.zero_le _⟩, Nat.le_refl _, fun R h => by
        have e := restOf_snoc ps [] (root, 0)
        rw [List.nil_append] at e
        rw [e, k2d] at h
        have e2 : restOf ps [] = [] := rfl
        rw [e2, List.append_nil] at h
        exact h⟩ ?_ ?_
    · rintro σ H2 ⟨W, vs, fs, v4, v5, rfl, s4, hb, ham, hfr, hvn, hWn, hWN, hfs, hvl, hD⟩
      refine ⟨_, rfl, (by show 0 ≤ sizeLine; decide), fun e ge => ?_⟩
      have s5 : Same H2 (upd H2 e (.lst [])) := (Same.refl H2).new ge
      have hWl := nodup_lenG W _ hWn hWN
      refine ⟨am, e, vs, rfl, rfl, SqL.of (s5 _ _ ham), SqL.of upd_same, _, rfl, ?_⟩
      have hfr5 : Paired (FrAt b am H (upd H2 e (.lst []))) vs fs := fr_move hfr fun c hc => by
        obtain ⟨_, _, _, f, hf⟩ := fr_ref hfr hc
        rw [upd_ne (fun z => by rw [z, ge] at hf; cases hf)]
      have hmu2 := muB_eq (g := fun n => (rowsOf ps n).length) hb ham hfr
      have hb5 := s5 _ _ hb
      have ham5 := s5 _ _ ham
      have s15 := s4.trans s5
      generalize upd H2 e (.lst []) = H5 at s5 s15 hfr5 hb5 ham5 ⊢
      rcases List.eq_nil_or_concat fs with hfe | ⟨fs', ⟨n, k⟩, hfe⟩
      · subst hfe
        cases hfr5
        refine iteF ?_
        exact ⟨_, rfl, q b W H5 s15 hb5 (hD W .nil)⟩
      · rw [List.concat_eq_append] at hfe
        subst hfe
        obtain ⟨vs', v, ev, hfr', c, ec, hcb', hca', hcH, hc⟩ := paired_snoc_inv hfr5
        subst ev ec
        rw [show (!(vs' ++ [V.ref c]).isEmpty) = true by cases vs' <;> rfl]
        refine iteT ?_
        have hnk := hfs (n, k) (List.mem_append_right _ List.mem_cons_self)
        obtain ⟨rs, hmem⟩ := part_of hnk.1
        have hrs : rowsOf ps n = rs := rowsOf_eq hfit.nd hmem
        obtain ⟨u, ws, hvu, hut, hrw⟩ := hdat n rs hmem
        have hk40 : rs.length ≤ 40 := hfit.rows _ hmem
        have hkr : k ≤ rs.length := by have := hnk.2; rw [hrs] at this; exact this
        have hwl : ws.length = rs.length := Paired.length hrw
        have hget : DGet H5 d (.str n) (some (.ref u)) := by
          have h1 := DGet.k (k := Sum.inr n) (s15 _ _ hd)
          rw [hvu] at h1
          exact h1
        have hlast : atI (vs' ++ [V.ref c]) (-1) = some (.ref c) := atI_last vs' _
        have hcv : V.ref c ∉ vs' := fun z => (List.nodup_append.mp hvn).2.2 _ z _ (List.mem_singleton.mpr rfl) rfl
        have hdrop : (vs' ++ [V.ref c]).dropLast = vs' := List.dropLast_concat
        refine ⟨_, rfl, _, rfl, _, rfl, am, _, _, _, rfl, rfl, SqL.of ham5, hlast, c, _, _, _, rfl, rfl, SqL.of hc, rfl, d, _, rfl, hget, ?_⟩
        refine ⟨_, rfl, _, rfl, am, _, _, _, rfl, rfl, SqL.of ham5, hlast, c, _, _, _, rfl, rfl, SqL.of hc, rfl, ?_⟩
        have hut5 := s15 _ _ hut
        refine ⟨_, rfl, _, rfl, u, _, rfl, .inr (SqT.of hut5), rfl, _, rfl, ?_⟩
        have hrest := restOf_snoc ps fs' (n, k)
        by_cases hkl : k = rs.length
        · have hdec : decide (V.int (k : Int) = V.int (ws.length : Int)) = true := decide_eq_true (by rw [hwl, hkl])
          rw [hdec]
          refine iteT ?_
          have hl2 : (vs' ++ [V.ref c])[(vs' ++ [V.ref c]).length - 1]? = some (.ref c) := by simp
          refine ⟨_, rfl, .inl ⟨rfl, _, SqL.of ham5⟩, am, _, _, rfl, rfl, ham5, hl2, ?_⟩
          rw [hdrop]
          have hb6 : upd H5 am (.lst vs') b = some (.lst (W.map V.str)) := by rw [upd_ne hba]; exact hb5
          have hfr6 : Paired (FrAt b am H (upd H5 am (.lst vs'))) vs' fs' := fr_move hfr' fun c' hc' => by
            rw [upd_ne (fr_ref hfr' hc').2.1]
          refine ⟨⟨W, vs', fs', _, _, rfl, s15.put gaH, hb6, upd_same, hfr6, (List.nodup_append.mp hvn).1, hWn, hWN, fun f hf => hfs f (List.mem_append_left _ hf), ?_, fun R h => hD R ?_⟩, ?_⟩
          · rw [List.length_append, List.length_singleton] at hvl
            omega
          · rw [hrest]
            show Dfs _ _ (((rowsOf ps n).drop k).filterMap _ ++ _) _
            rw [hrs, hkl, List.drop_length]
            exact h
          · show muB _ b am _ < muB _ b am H2
            rw [muB_eq hb6 upd_same hfr6, hmu2, List.map_append, List.sum_append]
            simp only [List.map_cons, List.map_nil, List.sum_cons, List.sum_nil]
            rw [hrs]
            omega
        · have hdec : decide (V.int (k : Int) = V.int (ws.length : Int)) = false := decide_eq_false (fun z => hkl (by have := V.int.inj z; omega))
          rw [hdec]
          refine iteF ?_
          have hklt : k < rs.length := by omega
          refine ⟨_, rfl, _, _, rfl, rfl, ?_⟩
          refine ⟨_, rfl, _, rfl, am, _, _, _, rfl, rfl, SqL.of ham5, hlast, c, _, _, 1, rfl, rfl, hc, rfl, ?_⟩
          have hset : ([V.str n, V.int (k : Int)] : List V).set 1 (.int ((k : Int) + 1)) = [.str n, .int ((k + 1 : Nat) : Int)] := rfl
          rw [hset]
          have hb6 : upd H5 c (.lst [.str n, .int ((k + 1 : Nat) : Int)]) b = some (.lst (W.map V.str)) := by rw [upd_ne hcb'.symm]; exact hb5
          have ham6 : upd H5 c (.lst [.str n, .int ((k + 1 : Nat) : Int)]) am = some (.lst (vs' ++ [V.ref c])) := by rw [upd_ne hca'.symm]; exact ham5
          have s6 : Same H (upd H5 c (.lst [.str n, .int ((k + 1 : Nat) : Int)])) := s15.put hcH
          have hfr6' : Paired (FrAt b am H (upd H5 c (.lst [.str n, .int ((k + 1 : Nat) : Int)]))) vs' fs' := fr_move hfr' fun c' hc' => by
            rw [upd_ne (fun z => hcv (by rw [← z]; exact hc'))]
          have hfr6 : Paired (FrAt b am H (upd H5 c (.lst [.str n, .int ((k + 1 : Nat) : Int)]))) (vs' ++ [V.ref c]) (fs' ++ [(n, k + 1)]) := Paired.snoc hfr6' ⟨c, rfl, hcb', hca', hcH, upd_same⟩
          generalize upd H5 c (.lst [.str n, .int ((k + 1 : Nat) : Int)]) = H6 at hb6 ham6 s6 hfr6 ⊢
          obtain ⟨rr, hrr⟩ : ∃ rr, rs[k]? = some rr := ⟨rs[k], by simp [hklt]⟩
          obtain ⟨vw, hvw, r, er, hra⟩ := Paired.get?' hrw hrr
          subst er
          have hra6 := hra.mono s6.tups
          have hut6 := s6 _ _ hut
          have hat : atI ws (k : Int) = some (.ref r) := atI_nat hvw
          have hdk : rs.drop k = rr :: rs.drop (k + 1) := by
            obtain ⟨hi, e⟩ := List.getElem?_eq_some_iff.mp hrr
            rw [List.drop_eq_getElem_cons hi, e]
          have hrest2 := restOf_snoc ps fs' (n, k + 1)
          have hfs6 : ∀ f ∈ fs' ++ [(n, k + 1)], f.1 ∈ ps.map (·.1) ∧ f.2 ≤ (rowsOf ps f.1).length := fun f hf => by
            rcases List.mem_append.mp hf with z | z
            · exact hfs f (List.mem_append_left _ z)
            · rw [List.mem_singleton.mp z]
              refine ⟨hnk.1, ?_⟩
              show k + 1 ≤ (rowsOf ps n).length
              rw [hrs]
              omega
          have hmu6 : muB (fun n => (rowsOf ps n).length) b am H6 < muB (fun n => (rowsOf ps n).length) b am H2 := by
            rw [muB_eq hb6 ham6 hfr6, hmu2, List.map_append, List.sum_append, List.map_append, List.sum_append]
            simp only [List.map_cons, List.map_nil, List.sum_cons, List.sum_nil]
            rw [hrs]
            omega
          rcases row_br hra6 with ⟨m, rest, hnm, hrt⟩ | ⟨hkd, hnm⟩
          · have z0 : atI (V.str "bring" :: V.str m :: rest) 0 = some (.str "bring") := atI_nat (j := 0) rfl
            have z1 : atI (V.str "bring" :: V.str m :: rest) 1 = some (.str m) := atI_nat (j := 1) rfl
            have hstep : ∀ R, Dfs (k2 ps) W (m :: restOf ps (fs' ++ [(n, k + 1)])) R → Dfs (k2 ps) [root] (k2 ps root) R := fun R h => hD R (by
              rw [hrest]
              show Dfs _ _ (((rowsOf ps n).drop k).filterMap _ ++ _) _
              rw [hrs, hdk, List.filterMap_cons_some hnm]
              rw [hrest2] at h
              have h' : Dfs (k2 ps) W (m :: (((rowsOf ps n).drop (k + 1)).filterMap (namesIt "bring") ++ restOf ps fs')) R := h
              rw [hrs] at h'
              exact h')
            have hmN : m ∈ ps.map (·.1) := hcl n hnk.1 m (by
              unfold k1
              rw [hrs]
              exact (mem_namedOf "bring" m rs).mpr ⟨rr, List.mem_of_getElem? hrr, hnm⟩)
            refine ⟨_, rfl, _, rfl, u, _, _, _, rfl, rfl, SqT.of hut6, hat, r, _, _, _, rfl, rfl, SqT.of hrt, z0, rfl, _, rfl, iteSE ?_⟩
            refine ⟨_, rfl, _, rfl, u, _, _, _, rfl, rfl, SqT.of hut6, hat, r, _, _, _, rfl, rfl, SqT.of hrt, z1, _, rfl, b, _, rfl, .inl (SqL.of hb6), rfl, flat_strs W, _, rfl, ?_⟩
            rw [if_pos rfl, inV_strs]
            by_cases hmW : m ∈ W
            · rw [decide_eq_true hmW]
              refine iteF ?_
              exact ⟨⟨W, _, _, _, _, rfl, s6, hb6, ham6, hfr6, hvn, hWn, hWN, hfs6, hvl, fun R h => hstep R (.old hmW h)⟩, hmu6⟩
            · rw [decide_eq_false hmW]
              refine iteT ?_
              refine ⟨_, rfl, .inl ⟨rfl, _, SqL.of hb6⟩, _, rfl, _, rfl, u, _, _, _, rfl, rfl, SqT.of hut6, hat, r, _, _, _, rfl, rfl, SqT.of hrt, z1, b, _, _, rfl, rfl, hb6, small1000 (by rw [List.length_map]; omega), ?_⟩
              have hW7 : W.map V.str ++ [.str m] = (W ++ [m]).map V.str := by rw [List.map_append]; rfl
              rw [hW7]
              have T7 : Tups H6 (upd H6 b (.lst ((W ++ [m]).map V.str))) := Tups.lst hb6
              have s7 : Same H (upd H6 b (.lst ((W ++ [m]).map V.str))) := s6.put gb
              have hb7 : upd H6 b (.lst ((W ++ [m]).map V.str)) b = some (.lst ((W ++ [m]).map V.str)) := upd_same
              have ham7 : upd H6 b (.lst ((W ++ [m]).map V.str)) am = some (.lst (vs' ++ [V.ref c])) := by rw [upd_ne hba.symm]; exact ham6
              have hfr7 : Paired (FrAt b am H (upd H6 b (.lst ((W ++ [m]).map V.str)))) (vs' ++ [V.ref c]) (fs' ++ [(n, k + 1)]) := fr_move hfr6 fun c' hc' => by
                rw [upd_ne (fr_ref hfr6 hc').1]
              generalize upd H6 b (.lst ((W ++ [m]).map V.str)) = H7 at T7 s7 hb7 ham7 hfr7 ⊢
              refine ⟨_, rfl, .inl ⟨rfl, _, SqL.of ham7⟩, _, rfl, _, rfl, u, _, _, _, rfl, rfl, SqT.of (T7 _ _ hut6), hat, r, _, _, _, rfl, rfl, SqT.of (T7 _ _ hrt), z1, (by show 2 ≤ sizeLine; decide), fun c1 gc1 => ?_⟩
              have s8 : Same H7 (upd H7 c1 (.lst [.str m, .int 0])) := (Same.refl H7).new gc1
              refine ⟨am, _, _, rfl, rfl, s8 _ _ ham7, small1000 (by omega), ?_⟩
              have h1b : c1 ≠ b := (ne_of_none hb7 gc1).symm
              have h1a : c1 ≠ am := (ne_of_none ham7 gc1).symm
              have hc1H : H c1 = none := s7.free gc1
              have s9 : Same H (upd (upd H7 c1 (.lst [.str m, .int 0])) am (.lst ((vs' ++ [V.ref c]) ++ [.ref c1]))) := (s7.trans s8).put gaH
              have hb9 : upd (upd H7 c1 (.lst [.str m, .int 0])) am (.lst ((vs' ++ [V.ref c]) ++ [.ref c1])) b = some (.lst ((W ++ [m]).map V.str)) := by rw [upd_ne hba]; exact s8 _ _ hb7
              have hfr9 : Paired (FrAt b am H (upd (upd H7 c1 (.lst [.str m, .int 0])) am (.lst ((vs' ++ [V.ref c]) ++ [.ref c1])))) ((vs' ++ [V.ref c]) ++ [.ref c1]) ((fs' ++ [(n, k + 1)]) ++ [(m, 0)]) := by
                refine Paired.snoc (fr_move hfr7 fun c' hc' => ?_) ⟨c1, rfl, h1b, h1a, hc1H, by rw [upd_ne h1a, upd_same]; rfl⟩
                obtain ⟨_, h2, _, f, hf⟩ := fr_ref hfr7 hc'
                rw [upd_ne h2, upd_ne (ne_of_none hf gc1)]
              have hWn' : (W ++ [m]).Nodup := List.nodup_append.mpr ⟨hWn, by simp, fun x hx y hy z => hmW (by rw [← List.mem_singleton.mp hy, ← z]; exact hx)⟩
              have hWN' : ∀ x ∈ W ++ [m], x ∈ ps.map (·.1) := fun x hx => by
                rcases List.mem_append.mp hx with z | z
                · exact hWN x z
                · rw [List.mem_singleton.mp z]; exact hmN
              have hWl' := nodup_lenG _ _ hWn' hWN'
              have hm40 := hrows m hmN
              refine ⟨⟨W ++ [m], _, _, _, _, rfl, s9, hb9, upd_same, hfr9, ?_, hWn', hWN', fun f hf => ?_, ?_, fun R h => hstep R (.new hmW ?_)⟩, ?_⟩
              · refine List.nodup_append.mpr ⟨hvn, by simp, fun x hx y hy z => ?_⟩
                rw [List.mem_singleton.mp hy] at z
                subst z
                obtain ⟨_, _, _, f, hf⟩ := fr_ref hfr7 hx
                rw [gc1] at hf
                cases hf
              · rcases List.mem_append.mp hf with z | z
                · exact hfs6 f z
                · rw [List.mem_singleton.mp z]
                  exact ⟨hmN, Nat.zero_le _⟩
              · rw [List.length_append, List.length_append (as := W), List.length_singleton, List.length_singleton]
                omega
              · have h3 := restOf_snoc ps (fs' ++ [(n, k + 1)]) (m, 0)
                rw [h3] at h
                have h' : Dfs (k2 ps) (W ++ [m]) (((rowsOf ps m).drop 0).filterMap (namesIt "bring") ++ restOf ps (fs' ++ [(n, k + 1)])) R := h
                rw [k2d] at h'
                exact h'
              · show muB _ b am _ < muB _ b am H2
                rw [muB_eq hb9 upd_same hfr9, hmu2]
                simp only [List.map_append, List.sum_append, List.map_cons, List.map_nil, List.sum_cons, List.sum_nil, List.length_append, List.length_singleton]
                rw [List.length_append, List.length_singleton] at hWl'
                rw [hrs]
                omega
          · obtain ⟨x1, rest, hrt⟩ := hra6.kind
            have z0 : atI (V.str (kindS rr) :: x1 :: rest) 0 = some (.str (kindS rr)) := atI_nat (j := 0) rfl
            refine ⟨_, rfl, _, rfl, u, _, _, _, rfl, rfl, SqT.of hut6, hat, r, _, _, _, rfl, rfl, SqT.of hrt, z0, rfl, _, rfl, iteSN hkd ?_⟩
            refine ⟨⟨W, _, _, _, _, rfl, s6, hb6, ham6, hfr6, hvn, hWn, hWN, hfs6, hvl, fun R h => hD R ?_⟩, hmu6⟩
            rw [hrest]
            show Dfs _ _ (((rowsOf ps n).drop k).filterMap _ ++ _) _
            rw [hrs, hdk, List.filterMap_cons_none hnm]
            rw [hrest2] at h
            have h' : Dfs (k2 ps) W (((rowsOf ps n).drop (k + 1)).filterMap (namesIt "bring") ++ restOf ps fs') R := h
            rw [hrs] at h'
            exact h'
    · rintro σ H2 Q1 Q2 hQ ⟨v, e, z, hz⟩
      refine ⟨v, e, z, fun p gp => ?_⟩
      obtain ⟨a1, b1, xs, e1, e2, h1, h2, c, ec, hq⟩ := hz p gp
      exact ⟨a1, b1, xs, e1, e2, h1, h2, c, ec, hQ _ _ hq⟩
theorem foldP_snoc (qs : List (Str × V)) (q : Str × V) : foldP (qs ++ [q]) [] = putK (foldP qs []) (Sum.inr q.1) q.2 := by
  unfold foldP; rw [List.foldl_append]; rfl
theorem foldP_len : ∀ (qs : List (Str × V)) (m : List (Key × V)), (foldP qs m).length ≤ m.length + qs.length
  | [], m => by simp [foldP]
  | q :: r, m => by
    have h := foldP_len r (putK m (Sum.inr q.1) q.2)
    have h2 : (putK m (Sum.inr q.1) q.2).length ≤ m.length + 1 := by
      unfold putK
      split
      · rw [List.length_map]; omega
      · rw [List.length_append]; simp
    show (foldP r (putK m (Sum.inr q.1) q.2)).length ≤ _
    simp only [List.length_cons]; omega
def RbAt (H : Hp) (q : Str × V) (pt : Pt) : Prop := q.1 = pt.1 ∧ ∃ u ws, q.2 = .ref u ∧ H u = some (.tup ws) ∧ RowsAt H ws pt.2
theorem RbAt.mono {H H' : Hp} (s : Tups H H') {q : Str × V} {pt : Pt} (h : RbAt H q pt) : RbAt H' q pt := by
  obtain ⟨e, u, ws, e2, h1, h2⟩ := h
  exact ⟨e, u, ws, e2, s _ _ h1, h2.mono s⟩
theorem rb_keys {H : Hp} : ∀ {qs : List (Str × V)} {ps : List Pt}, Paired (RbAt H) qs ps → qs.map (·.1) = ps.map (·.1)
  | _, _, .nil => rfl
  | _, _, .cons h t => by rw [List.map_cons, List.map_cons, rb_keys t, h.1]
theorem law_fn {f : Addr} {fd : FuncData} (F : Fun K "law" "law" s_law f fd) (T : Txt K mg) : FnOk P w K mg base CX0 7 f fd ["_law_script"] (spLaw K) := by
  have C_law_parts := ok_parts (P := P) (w := w) (base := base) T
  have C_order := ok_order (P := P) (w := w) (base := base) T
  have C_law_begun_by := ok_begun_by (P := P) (w := w) (base := base) T
  refine F.ok sc_law (fun vs H Q E h => ?_) (fun cdv A outer s H vs Q E hr h => ?_)
  · obtain ⟨a, ns, rfl, _⟩ := h
    rfl
  · obtain ⟨a, ns, rfl, hS, hlen, q⟩ := h
    have hu := hu_of hr
    have hu0 := Nat.lt_of_succ_lt (hu_of hr)
    refine ⟨_, (pss_cons (ps_set (i := 1) sc_law.nd rfl (Or.inl rfl) (pe_fn C_law_parts hr (by rfl) (pa_cons (pv 0) pa_nil)))
      (pss_cons (ps_set (i := 2) sc_law.nd rfl (Or.inl rfl) pe_dnewK)
      (pss_cons (ps_for PassesOwn.never rfl (pi_tup (pv 1)) (pg_tup rfl (pgs_cons (pg_name (i := 3) sc_law.nd rfl (Or.inl rfl)) (pgs_cons (pg_name (i := 4) sc_law.nd rfl (Or.inl rfl)) pgs_nil)))
        (pss_one (ps_dput hu (pv 2) (pv 3) (pv 4) rfl)))
      (pss_cons (ps_for PassesOwn.never rfl (pi_tup (pv 1)) (pg_tup rfl (pgs_cons (pg_name (i := 3) sc_law.nd rfl (Or.inl rfl)) (pgs_cons (pg_name (i := 4) sc_law.nd rfl (Or.inl rfl)) pgs_nil)))
        (pss_cons (ps_set (i := 5) sc_law.nd rfl (Or.inl rfl) (pe_fn C_order hr (by rfl) (pa_cons (pv 1) (pa_cons (pv 3) pa_nil))))
        (pss_cons (ps_if (PW.pt (pw_or (pt_not (pt_val (pe_callB call_isinst (by rfl) T.n_isinstance PyProof.Rows.boot_isinstance (pa_cons (pv 5) (pa_cons (pe_bltn (v := .ty "tuple") (by rfl) T.n_tuple boot_tuple rfl) pa_nil))))) (pw_or1 (pt_cmpR (op_neL_same hu0) (pe_callTy call_list_of (by rfl) T.n_list boot_list (pa_cons (pv 5) pa_nil)) (pe_fn C_law_begun_by hr (by rfl) (pa_cons (pv 2) (pa_cons (pv 3) pa_nil))) (nomark _)))))
          (pss_one (ps_ret pe_bl)) pss_nil)
        (pss_one (ps_for PassesOwn.never rfl (pi_tup (pv 5)) (pg_name (i := 6) sc_law.nd rfl (Or.inl rfl))
          (pss_one (ps_if (pt_not (pt_val (pe_callB call_isinst (by rfl) T.n_isinstance PyProof.Rows.boot_isinstance (pa_cons (pv 6) (pa_cons (pe_bltn (v := .ty "str") (by rfl) T.n_str boot_str rfl) pa_nil)))))
            (pss_one (ps_ret pe_bl)) pss_nil)))))))
      (pss_one (ps_ret pe_bl)))))), ?_⟩
    refine ⟨_, rfl, a, ns, rfl, hS, by omega, fun x hs b0 b1 b2 ps H1 s1 hpf hd => ?_⟩
    have hfit := hd.fit
    have hcl := hd.closedB
    have hhi := hfit.hi
    obtain ⟨o, vs, hx, ho, hps⟩ := id hpf
    have hvl : vs.length = ps.length := Paired.length hps
    have sqx : ∀ {H5 : Hp}, Same H1 H5 → SqT K H5 x vs := fun s5 => .inl (.inr ⟨o, s5 _ _ hx⟩)
    intro d gd
    have s2 : Same H1 (upd H1 d (.dK [])) := (Same.refl H1).new gd
    refine ⟨_, rfl, x, rfl, ⟨_, sqx s2⟩, for_tup (K := K) (a := x) (xs := vs) (fun i σ H2 => ∃ (qs : List (Str × V)) (v3 v4 : Option V), σ = [some (.ref a), some (.ref x), some (.ref d), v3, v4, none, none] ∧ Same H1 H2 ∧ H2 d = some (.dK (foldP qs [])) ∧ Paired (RbAt H2) qs (ps.take i))
      ⟨[], none, none, rfl, s2, upd_same, by rw [List.take_zero]; exact .nil⟩ (fun i σ H2 _ ⟨_, _, _, _, s3, _⟩ => sqx s3) ?_ ?_⟩
    · rintro i y σ H2 hy ⟨qs, v3, v4, rfl, s3, hd3, hqs⟩
      obtain ⟨pt, hpt, tt, u, ws, ey, htt, hu', hrs⟩ := Paired.get? hps hy
      subst ey
      have hql : qs.length ≤ 24 := by
        have := Paired.length hqs
        rw [this, List.length_take]; omega
      have hfl := foldP_len qs []
      simp only [List.length_nil] at hfl
      refine ⟨tt, _, rfl, SqT.of (s3 _ _ htt), rfl, _, _, rfl, _, _, rfl, rfl, ?_⟩
      refine ⟨_, rfl, _, rfl, _, rfl, d, _, rfl, DPut.k (k := Sum.inr pt.1) hd3 (small1000 (by omega)), ?_⟩
      have T5 : Tups H2 (upd H2 d (.dK (putK (foldP qs []) (Sum.inr pt.1) (.ref u)))) := Tups.dK hd3
      refine ⟨qs ++ [(pt.1, .ref u)], _, _, rfl, s3.put gd, by rw [upd_same, foldP_snoc], ?_⟩
      rw [take_succ_get hpt]
      exact Paired.snoc (Paired.mapP hqs fun _ _ z => z.mono T5) ⟨rfl, u, ws, rfl, T5 _ _ (s3 _ _ hu'), (hrs.mono s3.tups).mono T5⟩
    · rintro σ H2 ⟨qs, v3, v4, rfl, s3, hd3, hqs⟩
      rw [hvl, List.take_length] at hqs
      have hkn : (qs.map (·.1)).Nodup := by rw [rb_keys hqs]; exact hfit.nd
      refine ⟨_, rfl, x, rfl, ⟨_, sqx s3⟩, for_tup (K := K) (a := x) (xs := vs) (fun i σ H3 => ∃ v3 v4 v5 v6 : Option V, σ = [some (.ref a), some (.ref x), some (.ref d), v3, v4, v5, v6] ∧ Same H2 H3)
        ⟨v3, v4, none, none, rfl, Same.refl H2⟩ (fun i σ H3 _ ⟨_, _, _, _, _, s4⟩ => sqx (s3.trans s4)) ?_ ?_⟩
      · rintro i y σ H3 hy ⟨w3, w4, w5, w6, rfl, s4⟩
        obtain ⟨pt, hpt, tt, u, ws, ey, htt, hu', hrs⟩ := Paired.get? hps hy
        subst ey
        have s14 := s3.trans s4
        have hroot : pt.1 ∈ ps.map (·.1) := List.mem_map_of_mem (f := (·.1)) (List.mem_of_getElem? hpt)
        refine ⟨tt, _, rfl, SqT.of (s14 _ _ htt), rfl, _, _, rfl, _, _, rfl, rfl, ?_⟩
        refine ⟨_, rfl, _, rfl, x, ps, pt.1, rfl, s14.partsF hpf, hfit, hcl, hroot, fun p R H4 s5 hp hD => ?_⟩
        refine ⟨_, rfl, _, _, _, _, rfl, .tup hp, kit_same _ _, _, rfl, iteF ?_⟩
        refine ⟨_, rfl, p, _, rfl, .inr (SqT.of hp), fun l gl => ?_⟩
        have s6 : Same H4 (upd H4 l (.lst (R.map V.str))) := (Same.refl H4).new gl
        have hl6 : upd H4 l (.lst (R.map V.str)) l = some (.lst (R.map V.str)) := upd_same
        have s26 := (s4.trans s5).trans s6
        have hp6 := s6 _ _ hp
        generalize upd H4 l (.lst (R.map V.str)) = H6 at s6 hl6 s26 hp6 ⊢
        have hqs6 : Paired (RbAt H6) qs ps := Paired.mapP hqs fun _ _ z => z.mono s26.tups
        refine ⟨_, rfl, _, rfl, d, pt.1, _, ps, rfl, s26 _ _ hd3, hfit, hcl, fun n rs hmem => ?_, hroot, fun b R2 H7 s7 hb7 hD2 => ?_⟩
        · obtain ⟨j, hj⟩ := List.getElem?_of_mem hmem
          obtain ⟨q0, hq0, e0, u0, ws0, e1, h1, h2⟩ := Paired.get?' hqs6 hj
          refine ⟨u0, ws0, foldP_get qs [] n (.ref u0) hkn (.inl ?_), h1, h2⟩
          have := List.mem_of_getElem? hq0
          rw [show q0 = (n, V.ref u0) from Prod.ext e0 e1] at this
          exact this
        · have hR : R = R2 := by
            have h1 := Dfs.sim (k12 ps) hD (.both .nil)
            cases h1 with
            | old hm _ => simp at hm
            | new _ h2 =>
              rw [List.append_nil] at h2
              exact h2.det hD2
          subst hR
          refine ⟨l, b, _, rfl, rfl, SqL.of (s7 _ _ hl6), SqL.of hb7, flat_strs R, _, rfl, iteF ?_⟩
          have s27 := s26.trans s7
          have hp7 := s7 _ _ hp6
          refine ⟨_, rfl, p, rfl, ⟨_, SqT.of hp7⟩, for_tup (K := K) (a := p) (xs := R.map V.str) (fun j σ H8 => ∃ v6 : Option V, σ = [some (.ref a), some (.ref x), some (.ref d), some (.str pt.1), some (.ref u), some (.ref p), v6] ∧ H8 = H7)
            ⟨w6, rfl, rfl⟩ (fun j σ H8 _ ⟨_, _, e⟩ => by rw [e]; exact SqT.of hp7) ?_ ?_⟩
          · rintro j y σ H8 hy8 ⟨v6, rfl, rfl⟩
            rw [List.getElem?_map] at hy8
            cases hz : R[j]? with
            | none => rw [hz] at hy8; cases hy8
            | some z =>
              rw [hz] at hy8
              have ez : V.str z = y := Option.some.inj hy8
              subst ez
              refine ⟨_, rfl, _, _, _, _, rfl, .str _, kit_same _ _, _, rfl, iteF ?_⟩
              exact ⟨_, rfl, rfl⟩
          · rintro σ H8 ⟨v6, rfl, rfl⟩
            exact ⟨_, _, _, _, rfl, s27⟩
      · rintro σ H3 ⟨w3, w4, w5, w6, rfl, s4⟩
        exact q H3
end
end K15

set_option Elab.async false
set_option linter.all false
set_option maxRecDepth 100000
namespace K15
open PySem L2

theorem all_mk {l : PySem.W.OpenLaw} {w : World} {K : PySem.W.Frag} {h : Heap} {mg : Str → Option Value} {fa : Addr} (X : K.In h) (G : h.Ns mainGlobals mg) (hfa : mg "law" = some (.ref fa))
    {f0 : Addr} {od0 an0 : Option Addr} {sl0 : Array (Option Value)} {oc0 kV0 dc0 pm0 cd0 ct0 : Value}
    {f1 : Addr} {od1 an1 : Option Addr} {sl1 : Array (Option Value)} {oc1 kV1 dc1 pm1 cd1 ct1 : Value}
    {f2 : Addr} {od2 an2 : Option Addr} {sl2 : Array (Option Value)} {oc2 kV2 dc2 pm2 cd2 ct2 : Value}
    {f3 : Addr} {od3 an3 : Option Addr} {sl3 : Array (Option Value)} {oc3 kV3 dc3 pm3 cd3 ct3 : Value}
    {f4 : Addr} {od4 an4 : Option Addr} {sl4 : Array (Option Value)} {oc4 kV4 dc4 pm4 cd4 ct4 : Value}
    {f5 : Addr} {od5 an5 : Option Addr} {sl5 : Array (Option Value)} {oc5 kV5 dc5 pm5 cd5 ct5 : Value}
    {f6 : Addr} {od6 an6 : Option Addr} {sl6 : Array (Option Value)} {oc6 kV6 dc6 pm6 cd6 ct6 : Value}
    {f7 : Addr} {od7 an7 : Option Addr} {sl7 : Array (Option Value)} {oc7 kV7 dc7 pm7 cd7 ct7 : Value}
    {f8 : Addr} {od8 an8 : Option Addr} {sl8 : Array (Option Value)} {oc8 kV8 dc8 pm8 cd8 ct8 : Value}
    {f9 : Addr} {od9 an9 : Option Addr} {sl9 : Array (Option Value)} {oc9 kV9 dc9 pm9 cd9 ct9 : Value}
    {f10 : Addr} {od10 an10 : Option Addr} {sl10 : Array (Option Value)} {oc10 kV10 dc10 pm10 cd10 ct10 : Value}
    {f11 : Addr} {od11 an11 : Option Addr} {sl11 : Array (Option Value)} {oc11 kV11 dc11 pm11 cd11 ct11 : Value}
    {f12 : Addr} {od12 an12 : Option Addr} {sl12 : Array (Option Value)} {oc12 kV12 dc12 pm12 cd12 ct12 : Value}
    {f13 : Addr} {od13 an13 : Option Addr} {sl13 : Array (Option Value)} {oc13 kV13 dc13 pm13 cd13 ct13 : Value}
    {f14 : Addr} {od14 an14 : Option Addr} {sl14 : Array (Option Value)} {oc14 kV14 dc14 pm14 cd14 ct14 : Value}
    {f15 : Addr} {od15 an15 : Option Addr} {sl15 : Array (Option Value)} {oc15 kV15 dc15 pm15 cd15 ct15 : Value}
    {f16 : Addr} {od16 an16 : Option Addr} {sl16 : Array (Option Value)} {oc16 kV16 dc16 pm16 cd16 ct16 : Value}
    {f17 : Addr} {od17 an17 : Option Addr} {sl17 : Array (Option Value)} {oc17 kV17 dc17 pm17 cd17 ct17 : Value}
    (a0 : PySem.W.nsIn K mainGlobals "brings" = some (some (.ref f0))) (l0 : K.lookup f0 = some ⟨oc0, od0, .func (PySem.W.fnOf "brings" "brings" (defArgs s_brings) (defBody s_brings) (defScope s_brings) .none kV0 dc0 pm0 an0 cd0 ct0), sl0⟩) (c0 : PySem.W.codeIn K cd0 "brings" = true) (k0 : PySem.W.keepIn K (.ref f0) = true)
    (a1 : PySem.W.nsIn K mainGlobals "named_parts" = some (some (.ref f1))) (l1 : K.lookup f1 = some ⟨oc1, od1, .func (PySem.W.fnOf "named_parts" "named_parts" (defArgs s_named_parts) (defBody s_named_parts) (defScope s_named_parts) .none kV1 dc1 pm1 an1 cd1 ct1), sl1⟩) (c1 : PySem.W.codeIn K cd1 "named_parts" = true) (k1 : PySem.W.keepIn K (.ref f1) = true)
    (a2 : PySem.W.nsIn K mainGlobals "order" = some (some (.ref f2))) (l2 : K.lookup f2 = some ⟨oc2, od2, .func (PySem.W.fnOf "order" "order" (defArgs s_order) (defBody s_order) (defScope s_order) .none kV2 dc2 pm2 an2 cd2 ct2), sl2⟩) (c2 : PySem.W.codeIn K cd2 "order" = true) (k2 : PySem.W.keepIn K (.ref f2) = true)
    (a3 : PySem.W.nsIn K mainGlobals "_law_cell_at" = some (some (.ref f3))) (l3 : K.lookup f3 = some ⟨oc3, od3, .func (PySem.W.fnOf "_law_cell_at" "_law_cell_at" (defArgs s_law_cell_at) (defBody s_law_cell_at) (defScope s_law_cell_at) .none kV3 dc3 pm3 an3 cd3 ct3), sl3⟩) (c3 : PySem.W.codeIn K cd3 "_law_cell_at" = true) (k3 : PySem.W.keepIn K (.ref f3) = true)
    (a4 : PySem.W.nsIn K mainGlobals "_law_stream" = some (some (.ref f4))) (l4 : K.lookup f4 = some ⟨oc4, od4, .func (PySem.W.fnOf "_law_stream" "_law_stream" (defArgs s_law_stream) (defBody s_law_stream) (defScope s_law_stream) .none kV4 dc4 pm4 an4 cd4 ct4), sl4⟩) (c4 : PySem.W.codeIn K cd4 "_law_stream" = true) (k4 : PySem.W.keepIn K (.ref f4) = true)
    (a5 : PySem.W.nsIn K mainGlobals "_law_name" = some (some (.ref f5))) (l5 : K.lookup f5 = some ⟨oc5, od5, .func (PySem.W.fnOf "_law_name" "_law_name" (defArgs s_law_name) (defBody s_law_name) (defScope s_law_name) .none kV5 dc5 pm5 an5 cd5 ct5), sl5⟩) (c5 : PySem.W.codeIn K cd5 "_law_name" = true) (k5 : PySem.W.keepIn K (.ref f5) = true)
    (a6 : PySem.W.nsIn K mainGlobals "_law_pool" = some (some (.ref f6))) (l6 : K.lookup f6 = some ⟨oc6, od6, .func (PySem.W.fnOf "_law_pool" "_law_pool" (defArgs s_law_pool) (defBody s_law_pool) (defScope s_law_pool) .none kV6 dc6 pm6 an6 cd6 ct6), sl6⟩) (c6 : PySem.W.codeIn K cd6 "_law_pool" = true) (k6 : PySem.W.keepIn K (.ref f6) = true)
    (a7 : PySem.W.nsIn K mainGlobals "_law_begun" = some (some (.ref f7))) (l7 : K.lookup f7 = some ⟨oc7, od7, .func (PySem.W.fnOf "_law_begun" "_law_begun" (defArgs s_law_begun) (defBody s_law_begun) (defScope s_law_begun) .none kV7 dc7 pm7 an7 cd7 ct7), sl7⟩) (c7 : PySem.W.codeIn K cd7 "_law_begun" = true) (k7 : PySem.W.keepIn K (.ref f7) = true)
    (a8 : PySem.W.nsIn K mainGlobals "_law_fresh" = some (some (.ref f8))) (l8 : K.lookup f8 = some ⟨oc8, od8, .func (PySem.W.fnOf "_law_fresh" "_law_fresh" (defArgs s_law_fresh) (defBody s_law_fresh) (defScope s_law_fresh) .none kV8 dc8 pm8 an8 cd8 ct8), sl8⟩) (c8 : PySem.W.codeIn K cd8 "_law_fresh" = true) (k8 : PySem.W.keepIn K (.ref f8) = true)
    (a9 : PySem.W.nsIn K mainGlobals "_law_pairs" = some (some (.ref f9))) (l9 : K.lookup f9 = some ⟨oc9, od9, .func (PySem.W.fnOf "_law_pairs" "_law_pairs" (defArgs s_law_pairs) (defBody s_law_pairs) (defScope s_law_pairs) .none kV9 dc9 pm9 an9 cd9 ct9), sl9⟩) (c9 : PySem.W.codeIn K cd9 "_law_pairs" = true) (k9 : PySem.W.keepIn K (.ref f9) = true)
    (a10 : PySem.W.nsIn K mainGlobals "_law_added" = some (some (.ref f10))) (l10 : K.lookup f10 = some ⟨oc10, od10, .func (PySem.W.fnOf "_law_added" "_law_added" (defArgs s_law_added) (defBody s_law_added) (defScope s_law_added) .none kV10 dc10 pm10 an10 cd10 ct10), sl10⟩) (c10 : PySem.W.codeIn K cd10 "_law_added" = true) (k10 : PySem.W.keepIn K (.ref f10) = true)
    (a11 : PySem.W.nsIn K mainGlobals "_law_sum" = some (some (.ref f11))) (l11 : K.lookup f11 = some ⟨oc11, od11, .func (PySem.W.fnOf "_law_sum" "_law_sum" (defArgs s_law_sum) (defBody s_law_sum) (defScope s_law_sum) .none kV11 dc11 pm11 an11 cd11 ct11), sl11⟩) (c11 : PySem.W.codeIn K cd11 "_law_sum" = true) (k11 : PySem.W.keepIn K (.ref f11) = true)
    (a12 : PySem.W.nsIn K mainGlobals "_law_row" = some (some (.ref f12))) (l12 : K.lookup f12 = some ⟨oc12, od12, .func (PySem.W.fnOf "_law_row" "_law_row" (defArgs s_law_row) (defBody s_law_row) (defScope s_law_row) .none kV12 dc12 pm12 an12 cd12 ct12), sl12⟩) (c12 : PySem.W.codeIn K cd12 "_law_row" = true) (k12 : PySem.W.keepIn K (.ref f12) = true)
    (a13 : PySem.W.nsIn K mainGlobals "_law_finished" = some (some (.ref f13))) (l13 : K.lookup f13 = some ⟨oc13, od13, .func (PySem.W.fnOf "_law_finished" "_law_finished" (defArgs s_law_finished) (defBody s_law_finished) (defScope s_law_finished) .none kV13 dc13 pm13 an13 cd13 ct13), sl13⟩) (c13 : PySem.W.codeIn K cd13 "_law_finished" = true) (k13 : PySem.W.keepIn K (.ref f13) = true)
    (a14 : PySem.W.nsIn K mainGlobals "_law_pools" = some (some (.ref f14))) (l14 : K.lookup f14 = some ⟨oc14, od14, .func (PySem.W.fnOf "_law_pools" "_law_pools" (defArgs s_law_pools) (defBody s_law_pools) (defScope s_law_pools) .none kV14 dc14 pm14 an14 cd14 ct14), sl14⟩) (c14 : PySem.W.codeIn K cd14 "_law_pools" = true) (k14 : PySem.W.keepIn K (.ref f14) = true)
    (a15 : PySem.W.nsIn K mainGlobals "_law_parts" = some (some (.ref f15))) (l15 : K.lookup f15 = some ⟨oc15, od15, .func (PySem.W.fnOf "_law_parts" "_law_parts" (defArgs s_law_parts) (defBody s_law_parts) (defScope s_law_parts) .none kV15 dc15 pm15 an15 cd15 ct15), sl15⟩) (c15 : PySem.W.codeIn K cd15 "_law_parts" = true) (k15 : PySem.W.keepIn K (.ref f15) = true)
    (a16 : PySem.W.nsIn K mainGlobals "_law_begun_by" = some (some (.ref f16))) (l16 : K.lookup f16 = some ⟨oc16, od16, .func (PySem.W.fnOf "_law_begun_by" "_law_begun_by" (defArgs s_law_begun_by) (defBody s_law_begun_by) (defScope s_law_begun_by) .none kV16 dc16 pm16 an16 cd16 ct16), sl16⟩) (c16 : PySem.W.codeIn K cd16 "_law_begun_by" = true) (k16 : PySem.W.keepIn K (.ref f16) = true)
    (a17 : PySem.W.nsIn K mainGlobals "law" = some (some (.ref f17))) (l17 : K.lookup f17 = some ⟨oc17, od17, .func (PySem.W.fnOf "law" "law" (defArgs s_law) (defBody s_law) (defScope s_law) .none kV17 dc17 pm17 an17 cd17 ct17), sl17⟩) (c17 : PySem.W.codeIn K cd17 "law" = true) (k17 : PySem.W.keepIn K (.ref f17) = true)
    (z0 : PySem.W.nsIn K mainGlobals "len" = some none)
    (z1 : PySem.W.nsIn K mainGlobals "range" = some none)
    (z2 : PySem.W.nsIn K mainGlobals "str" = some none)
    (z3 : PySem.W.nsIn K mainGlobals "tuple" = some none)
    (z4 : PySem.W.nsIn K mainGlobals "dict" = some none)
    (z5 : PySem.W.nsIn K mainGlobals "list" = some none)
    (z6 : PySem.W.nsIn K mainGlobals "isinstance" = some none)
    (z7 : PySem.W.nsIn K mainGlobals "min" = some none)
    (z8 : PySem.W.nsIn K mainGlobals "max" = some none)
    (z9 : PySem.W.nsIn K mainGlobals "zip" = some none)
    (z10 : PySem.W.nsIn K mainGlobals "reversed" = some none) :
    ∃ fd : FuncData, (∀ (s : Shared) (v : Value), BindsTo s fd ⟨[v], []⟩ [("_law_script", v)]) ∧ ∀ base : Heap, K.In base → base.Ns mainGlobals mg → FnOk l.prog w K mg base CX0 7 fa fd ["_law_script"] (spLaw K) := by
  have e := hfa.symm.trans (PySem.W.mg_of X G a17)
  cases e
  have T : Txt K mg := ⟨PySem.W.mg_none_of X G z0, PySem.W.mg_none_of X G z1, PySem.W.mg_none_of X G z2, PySem.W.mg_none_of X G z3, PySem.W.mg_none_of X G z4, PySem.W.mg_none_of X G z5, PySem.W.mg_none_of X G z6, PySem.W.mg_none_of X G z7, PySem.W.mg_none_of X G z8, PySem.W.mg_none_of X G z9, PySem.W.mg_none_of X G z10, hasDef_mk X G a0 l0 c0 k0, hasDef_mk X G a1 l1 c1 k1, hasDef_mk X G a2 l2 c2 k2, hasDef_mk X G a3 l3 c3 k3, hasDef_mk X G a4 l4 c4 k4, hasDef_mk X G a5 l5 c5 k5, hasDef_mk X G a6 l6 c6 k6, hasDef_mk X G a7 l7 c7 k7, hasDef_mk X G a8 l8 c8 k8, hasDef_mk X G a9 l9 c9 k9, hasDef_mk X G a10 l10 c10 k10, hasDef_mk X G a11 l11 c11 k11, hasDef_mk X G a12 l12 c12 k12, hasDef_mk X G a13 l13 c13 k13, hasDef_mk X G a14 l14 c14 k14, hasDef_mk X G a15 l15 c15 k15, hasDef_mk X G a16 l16 c16 k16⟩
  exact ⟨_, fun s v => .of_eq rfl, fun base _ _ => law_fn (fun_mk (st := s_law) l17 c17 k17) T⟩
theorem walk {l : PySem.W.OpenLaw} {q : Program} {loose : List Str} {XP : (Str → Option Value) → Heap → Prop} {YP : World → Heap → Prop} {d : DefRec} {K : Params → PySem.W.Frag} (hn : l.most = some 63) (hdf : d.params.defaults = [])
    (hY : ∀ (w : World) (h : Heap), YP w h → (K w.params).In h)
    (F : ∀ (w : World) (mg : Str → Option Value) (fa : Addr) (h : Heap), (K w.params).In h → h.Ns mainGlobals mg → mg d.name = some (.ref fa) →
      ∃ fd : FuncData, (∀ (s : Shared) (u : Value), BindsTo s fd ⟨[u], []⟩ [("_law_script", u)]) ∧ ∀ base : Heap, (K w.params).In base → base.Ns mainGlobals mg → FnOk l.prog w (K w.params) mg base CX0 7 fa fd ["_law_script"] (spLaw (K w.params))) :
    PySem.W.WalkO q loose XP YP l.row.toRowW d [] (fun f vs => PySem.call f vs) :=
  L2.walk_of (n := 63) (k := 7) (x := "_law_script") (CX := fun _ => CX0) (sp := fun w => spLaw (K w.params)) hn (by decide) hdf ⟨rfl, by decide, by decide⟩ hY F (fun _ _ a ns hl _ hS => ⟨a, ns, rfl, hS, hl, fun _ => rfl⟩) fun _ _ _ _ _ z => z
end K15
open PySem PySem.W PyProof.Rows
set_option maxRecDepth 100000 in
set_option maxHeartbeats 0 in
theorem PySem.Challenge.cw_bundlehouse_k15_begun_order_holds : PySem.Challenge.rw_bundlehouse_k15_begun_order.Holds := by
  w_on; o_law; k_head; (case hw => w_witness2)
  k_fill
  refine K15.walk (l := PySem.Challenge.rw_bundlehouse_k15_begun_order) rfl rfl (fun w h Y => PySem.W.kIn_of Y) ?F
  case F =>
    intro w mg fa h KX G hmg
    refine' K15.all_mk KX G hmg ?a0 ?l0 ?c0 ?k0 ?a1 ?l1 ?c1 ?k1 ?a2 ?l2 ?c2 ?k2 ?a3 ?l3 ?c3 ?k3 ?a4 ?l4 ?c4 ?k4 ?a5 ?l5 ?c5 ?k5 ?a6 ?l6 ?c6 ?k6 ?a7 ?l7 ?c7 ?k7 ?a8 ?l8 ?c8 ?k8 ?a9 ?l9 ?c9 ?k9 ?a10 ?l10 ?c10 ?k10 ?a11 ?l11 ?c11 ?k11 ?a12 ?l12 ?c12 ?k12 ?a13 ?l13 ?c13 ?k13 ?a14 ?l14 ?c14 ?k14 ?a15 ?l15 ?c15 ?k15 ?a16 ?l16 ?c16 ?k16 ?a17 ?l17 ?c17 ?k17 ?z0 ?z1 ?z2 ?z3 ?z4 ?z5 ?z6 ?z7 ?z8 ?z9 ?z10
    (case a0 => k_is); (case l0 => k_is); (case c0 => k_is); (case k0 => k_is)
    (case a1 => k_is); (case l1 => k_is); (case c1 => k_is); (case k1 => k_is)
    (case a2 => k_is); (case l2 => k_is); (case c2 => k_is); (case k2 => k_is)
    (case a3 => k_is); (case l3 => k_is); (case c3 => k_is); (case k3 => k_is)
    (case a4 => k_is); (case l4 => k_is); (case c4 => k_is); (case k4 => k_is)
    (case a5 => k_is); (case l5 => k_is); (case c5 => k_is); (case k5 => k_is)
    (case a6 => k_is); (case l6 => k_is); (case c6 => k_is); (case k6 => k_is)
    (case a7 => k_is); (case l7 => k_is); (case c7 => k_is); (case k7 => k_is)
    (case a8 => k_is); (case l8 => k_is); (case c8 => k_is); (case k8 => k_is)
    (case a9 => k_is); (case l9 => k_is); (case c9 => k_is); (case k9 => k_is)
    (case a10 => k_is); (case l10 => k_is); (case c10 => k_is); (case k10 => k_is)
    (case a11 => k_is); (case l11 => k_is); (case c11 => k_is); (case k11 => k_is)
    (case a12 => k_is); (case l12 => k_is); (case c12 => k_is); (case k12 => k_is)
    (case a13 => k_is); (case l13 => k_is); (case c13 => k_is); (case k13 => k_is)
    (case a14 => k_is); (case l14 => k_is); (case c14 => k_is); (case k14 => k_is)
    (case a15 => k_is); (case l15 => k_is); (case c15 => k_is); (case k15 => k_is)
    (case a16 => k_is); (case l16 => k_is); (case c16 => k_is); (case k16 => k_is)
    (case a17 => k_is); (case l17 => k_is); (case c17 => k_is); (case k17 => k_is)
    (case z0 => k_is); (case z1 => k_is); (case z2 => k_is); (case z3 => k_is); (case z4 => k_is); (case z5 => k_is); (case z6 => k_is); (case z7 => k_is); (case z8 => k_is); (case z9 => k_is); (case z10 => k_is)

