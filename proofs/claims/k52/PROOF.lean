import PyProof.Rows.All
import Wide.All
import OpenK.AllK
import Wide.FinOn
import Lean
import PyProof.EqAt
import PyProof.EqKinds
import PyProof.TupleCall
import PySem.Challenge.RW_bundlehouse_k52_groups_by_colours
set_option Elab.async false
set_option linter.all false
set_option maxRecDepth 100000
namespace L2
open PySem PySem.Spec PyProof.Rows
abbrev Key := Sum Int Str
def keyIs : Key → Value → Bool
  | .inl k, v => Value.isInt k v
  | .inr x, v => Value.isStrOf x v
def keyH (w : World) : Key → Int
  | .inl k => hashInt k
  | .inr x => hashStr w x
theorem keyIs_shape : ∀ {k : Key} {v : Value}, keyIs k v = true → (∃ i t, k = Sum.inl i ∧ v = Value.int i t) ∨ (∃ x t, k = Sum.inr x ∧ v = Value.str x t)
  | .inl i, v, h => by
    obtain ⟨t, e⟩ := Value.isInt_shape (k := i) (v := v) h
    exact .inl ⟨i, t, rfl, e⟩
  | .inr x, v, h => by
    obtain ⟨t, e⟩ := Value.isStrOf_shape (x := x) (v := v) h
    exact .inr ⟨x, t, rfl, e⟩
theorem keyIs_int (i : Int) (t : Tok) : keyIs (.inl i) (.int i t) = true := by simp [keyIs, Value.isInt]
theorem keyIs_str (x : Str) (t : Tok) : keyIs (.inr x) (.str x t) = true := by simp [keyIs, Value.isStrOf]
theorem key_ll (a b : Int) : decide ((Sum.inl a : Key) = Sum.inl b) = (a == b) := by
  by_cases e : a = b
  · subst e; simp
  · have h : ¬ (Sum.inl a : Key) = Sum.inl b := fun q => e (Sum.inl.inj q)
    rw [decide_eq_false h]
    exact (beq_eq_false_iff_ne.mpr e).symm
theorem key_rr (a b : Str) : decide ((Sum.inr a : Key) = Sum.inr b) = decide (a = b) := by
  by_cases e : a = b
  · subst e; simp
  · have h : ¬ (Sum.inr a : Key) = Sum.inr b := fun q => e (Sum.inr.inj q)
    rw [decide_eq_false h, decide_eq_false e]
theorem key_lr (a : Int) (b : Str) : decide ((Sum.inl a : Key) = Sum.inr b) = false := decide_eq_false (fun q => nomatch q)
theorem key_rl (a : Str) (b : Int) : decide ((Sum.inr a : Key) = Sum.inl b) = false := decide_eq_false (fun q => nomatch q)
def mixKind (prog : Program) (w : World) : PySem.KeyKind prog w Key where
  is := keyIs
  hash := keyH w
  inj := fun v a b ha hb => by
    rcases keyIs_shape ha with ⟨i, t, rfl, rfl⟩ | ⟨x, t, rfl, rfl⟩
    · rcases keyIs_shape hb with ⟨j, u, rfl, e⟩ | ⟨y, u, rfl, e⟩
      · injection e with e1 _; rw [e1]
      · exact nomatch e
    · rcases keyIs_shape hb with ⟨j, u, rfl, e⟩ | ⟨y, u, rfl, e⟩
      · exact nomatch e
      · injection e with e1 _; rw [e1]
  byValue := fun k v h => by
    rcases keyIs_shape h with ⟨i, t, rfl, rfl⟩ | ⟨x, t, rfl, rfl⟩ <;> rfl
  pyHash := fun hv h => by
    rcases keyIs_shape hv with ⟨i, t, rfl, rfl⟩ | ⟨x, t, rfl, rfl⟩
    · exact wpAny_pyHash_int h
    · exact wpAny_pyHash_str h
  eqBool := fun hu hv h => by
    rcases keyIs_shape hu with ⟨i, t, rfl, rfl⟩ | ⟨x, t, rfl, rfl⟩
    · rcases keyIs_shape hv with ⟨j, u, rfl, rfl⟩ | ⟨y, u, rfl, rfl⟩
      · rw [key_ll] at h; exact wpAny_eqBool_int h
      · rw [key_lr] at h; exact SeqAt.EqAt.int_str i t y u _ _ _ _ h
    · rcases keyIs_shape hv with ⟨j, u, rfl, rfl⟩ | ⟨y, u, rfl, rfl⟩
      · rw [key_rl] at h; exact SeqAt.EqAt.str_int x t j u _ _ _ _ h
      · rw [key_rr] at h; exact wpAny_eqBool_str h
  «strs» := fun k x t v h => by
    rcases keyIs_shape h with ⟨i, u, rfl, e⟩ | ⟨y, u, rfl, e⟩
    · exact nomatch e
    · injection e with e1 _
      subst e1
      cases v <;> rfl
theorem mixKind_int (prog : Program) (w : World) (i : Int) (t : Tok) : (mixKind prog w).is (.inl i) (.int i t) = true := keyIs_int i t
theorem mixKind_str (prog : Program) (w : World) (x : Str) (t : Tok) : (mixKind prog w).is (.inr x) (.str x t) = true := keyIs_str x t
end L2
namespace L2
open PySem PySem.Spec PyProof.Rows
inductive V where
  | non | bl (b : Bool) | int (i : Int) | str (x : Str) | byt (b : Array UInt8) | flt (b : UInt64) | ref (a : Addr) | ty (n : String)
  deriving DecidableEq
def RelV : V → Value → Prop
  | .non, u => u = Value.none
  | .bl b, u => u = Value.bool b
  | .int i, u => ∃ t, u = Value.int i t
  | .str x, u => ∃ t, u = Value.str x t
  | .byt b, u => ∃ t, u = Value.bytes b t
  | .flt b, u => ∃ t, u = Value.float b t
  | .ref a, u => u = Value.ref a
  | .ty n, u => u = Value.type n
abbrev Vals : List V → List Value → Prop := Paired RelV
theorem Vals.length {xs : List V} {us : List Value} (r : Vals xs us) : xs.length = us.length := Paired.length r
theorem Vals.get : ∀ {xs : List V} {us : List Value} {i : Nat} {x : V}, Vals xs us → xs[i]? = some x → ∃ u, us[i]? = some u ∧ RelV x u
  | _, _, _, _, .nil, e => by simp at e
  | _, _, 0, _, .cons r _, e => by simp at e; subst e; exact ⟨_, rfl, r⟩
  | _, _, i + 1, x, .cons _ t, e => by
    obtain ⟨u, h1, h2⟩ := Vals.get (i := i) (x := x) t (by simpa using e)
    exact ⟨u, by simpa using h1, h2⟩
theorem Vals.append : ∀ {xs ys : List V} {us ws : List Value}, Vals xs us → Vals ys ws → Vals (xs ++ ys) (us ++ ws)
  | _, _, _, _, .nil, s => s
  | _, _, _, _, .cons r t, s => .cons r (Vals.append t s)
theorem Vals.take : ∀ {xs : List V} {us : List Value} (n : Nat), Vals xs us → Vals (xs.take n) (us.take n)
  | _, _, 0, _ => .nil
  | _, _, _ + 1, .nil => .nil
  | _, _, n + 1, .cons r t => .cons r (Vals.take n t)
theorem Vals.drop : ∀ {xs : List V} {us : List Value} (n : Nat), Vals xs us → Vals (xs.drop n) (us.drop n)
  | _, _, 0, r => r
  | _, _, _ + 1, .nil => .nil
  | _, _, n + 1, .cons _ t => Vals.drop n t
def RelO : Option V → Option Value → Prop
  | some v, some u => RelV v u
  | none, none => True
  | _, _ => False
def KV {κ : Type} : List (κ × V) → List (κ × Value) → Prop := Paired fun (p : κ × V) (q : κ × Value) => p.1 = q.1 ∧ RelV p.2 q.2
def kV : Key → V
  | .inl i => .int i
  | .inr x => .str x
inductive HO where
  | lst (xs : List V)
  | tup (xs : List V)
  | dK (kvs : List (Key × V)) | dT (kvs : List (List Key × V))
  | set (S : Int → Bool) (n : Nat)
  | ins (C dx : Addr) (fs : List (Str × V))
  | own (x : Addr)
  | xd (fs : List (Str × V))
  | met (f x : Addr)
  | rng (lo hi : Int)
  | frz (o : Obj) (u : HO)
  | tbl (ps : Array Value)
  | ext (φ : Heap → Prop)
abbrev Hp := Addr → Option HO
def upd (H : Hp) (a : Addr) (o : HO) : Hp := fun b => if b = a then some o else H b
theorem upd_same {H : Hp} {a : Addr} {o : HO} : upd H a o a = some o := by unfold upd; rw [if_pos rfl]
theorem upd_ne {H : Hp} {a b : Addr} {o : HO} (h : b ≠ a) : upd H a o b = H b := by unfold upd; rw [if_neg h]
theorem upd_upd {H : Hp} {a : Addr} {o u : HO} : upd (upd H a o) a u = upd H a u := by
  funext b; unfold upd; split <;> rfl
theorem ne_of {H : Hp} {a b : Addr} {o u : HO} (h : H a = some o) (h' : H b = some u) (d : o ≠ u) : a ≠ b := by
  intro e; subst e; rw [h] at h'; exact d (Option.some.inj h')
theorem ne_of_none {H : Hp} {a b : Addr} {o : HO} (h : H a = some o) (h' : H b = none) : a ≠ b := by
  intro e; subst e; rw [h] at h'; cases h'
section
variable (P : Program) (w : World)
def ObjOk (H : Hp) (h : Heap) (a : Addr) : HO → Prop
  | .lst xs => xs.length ≤ sizeLine ∧ ∃ (its : List Value) (n : Nat), Vals xs its ∧ h.get? a = some { cls := .type "list", data := .seq its.toArray n }
  | .tup xs => xs.length ≤ sizeLine ∧ ∃ its : List Value, Vals xs its ∧ IsTup h a its.toArray
  | .dK kvs => kvs.length ≤ sizeLine ∧ (a == sysModules) = false ∧ ∃ vs, KV kvs vs ∧ h.DictOf (mixKind P w) a vs
  | .dT kvs => kvs.length ≤ sizeLine ∧ (a == sysModules) = false ∧ ∃ xs : List (List Key × Addr × Value),
      Paired (fun (p : List Key × V) (q : List Key × Addr × Value) => p.1 = q.1 ∧ H q.2.1 = some (.tup (p.1.map kV)) ∧ RelV p.2 q.2.2) kvs xs ∧
      ∃ o es ep, h.get? a = some o ∧ o.ExactDict ∧ o.data = .dict es ep ∧ es.toList = xs.map (entryOfKey (tupleKind (mixKind P w))) ∧ (xs.map (·.1)).Nodup
  | .set S n => h.SetOf (intKind P w) a S n
  | .ins C dx fs => H dx = some (.own a) ∧ fs.length ≤ 1000 ∧ dx ≠ a ∧ h.get? a = some (PySem.W.instObj C dx) ∧
      ∃ mA, h.Ns1 dx mA ∧ (∀ f, RelO (fs.lookup f) (mA f)) ∧ PySem.Within mA (fs.map (·.1))
  | .own _ => ∃ o, h.get? a = some o
  | .xd fs => ∃ mA, h.Ns1 a mA ∧ ∀ f, RelO (fs.lookup f) (mA f)
  | .rng lo hi => ∃ t u v, h.get? a = some { cls := .type "range", data := .fields #[.int lo t, .int hi u, .int 1 v] }
  | .frz o u => h.get? a = some o ∧ ObjOk H h a u
  | .tbl ps => h.get? a = some { cls := .none, data := .fields ps }
  | .met f x => h.get? a = some (PySem.W.methodObj (.ref f) (.ref x))
  | .ext φ => φ h ∧ (∃ o, h.get? a = some o) ∧ ∀ h1 h2 : Heap, φ h1 → (∀ o, h1.get? a = some o → h2.get? a = some o) → φ h2
def HOk (H : Hp) (h : Heap) : Prop := ∀ a o, H a = some o → ObjOk P w H h a o
end
section
variable {P : Program} {w : World} {H H' : Hp} {h h' : Heap} {a : Addr} {o : HO}
theorem ObjOk.lt (x : ObjOk P w H h a o) : a < h.objs.size := by
  cases o with
  | lst xs => obtain ⟨_, _, _, _, e⟩ := x; exact Heap.lt_size e
  | tup xs => obtain ⟨_, _, _, p⟩ := x; exact p.lt
  | dK kvs => obtain ⟨_, _, _, _, o, _, _, e, _⟩ := x; exact Heap.lt_size e
  | dT kvs => obtain ⟨_, _, _, _, o, _, _, e, _⟩ := x; exact Heap.lt_size e
  | set S n => obtain ⟨o, _, _, _, e, _⟩ := x; exact Heap.lt_size e
  | ins C dx fs => obtain ⟨_, _, _, e, _⟩ := x; exact Heap.lt_size e
  | own y => obtain ⟨_, e⟩ := x; exact Heap.lt_size e
  | xd fs => obtain ⟨_, ⟨_, _, _, e, _⟩, _⟩ := x; exact Heap.lt_size e
  | rng lo hi => obtain ⟨_, _, _, e⟩ := x; exact Heap.lt_size e
  | frz ob u => obtain ⟨e, _⟩ := x; exact Heap.lt_size e
  | tbl ps => exact Heap.lt_size (show h.get? a = some _ from x)
  | met f y => exact Heap.lt_size (show h.get? a = some _ from x)
  | ext φ => obtain ⟨_, ⟨_, e⟩, _⟩ := x; exact Heap.lt_size e
theorem Paired.mapP {α β : Type} {F G : α → β → Prop} : ∀ {l₁ : List α} {l₂ : List β}, Paired F l₁ l₂ → (∀ a b, F a b → G a b) → Paired G l₁ l₂
  | _, _, .nil, _ => .nil
  | _, _, .cons r t, f => .cons (f _ _ r) (Paired.mapP t f)
theorem ObjOk.stay (x : ObjOk P w H h a o) (k : ∀ b u, (b = a ∨ H b = some (.own a)) → h.get? b = some u → h'.get? b = some u)
    (ho : ∀ b, H b = some (.own a) → H' b = some (.own a)) (ht : ∀ b xs, H b = some (.tup xs) → H' b = some (.tup xs)) : ObjOk P w H' h' a o := by
  induction o with
  | lst xs => obtain ⟨z, its, n, r, e⟩ := x; exact ⟨z, its, n, r, k _ _ (.inl rfl) e⟩
  | tup xs => obtain ⟨z, its, r, ob, e, c⟩ := x; exact ⟨z, its, r, ob, k _ _ (.inl rfl) e, c⟩
  | dK kvs => obtain ⟨z, y, vs, r, ob, es, ep, e, c⟩ := x; exact ⟨z, y, vs, r, ob, es, ep, k _ _ (.inl rfl) e, c⟩
  | dT kvs =>
    obtain ⟨z, y, xs, r, ob, es, ep, e, c⟩ := x
    exact ⟨z, y, xs, Paired.mapP r fun p q z => ⟨z.1, ht _ _ z.2.1, z.2.2⟩, ob, es, ep, k _ _ (.inl rfl) e, c⟩
  | set S n => obtain ⟨ob, es, ep, t, e, c⟩ := x; exact ⟨ob, es, ep, t, k _ _ (.inl rfl) e, c⟩
  | ins C dx fs =>
    obtain ⟨d, z, ne, e, mA, ⟨od, es, ep, e2, c⟩, r⟩ := x
    exact ⟨ho _ d, z, ne, k _ _ (.inl rfl) e, mA, ⟨od, es, ep, k _ _ (.inr d) e2, c⟩, r⟩
  | own y => obtain ⟨ob, e⟩ := x; exact ⟨ob, k _ _ (.inl rfl) e⟩
  | xd fs => obtain ⟨mA, ⟨od, es, ep, e, c⟩, r⟩ := x; exact ⟨mA, ⟨od, es, ep, k _ _ (.inl rfl) e, c⟩, r⟩
  | rng lo hi => obtain ⟨t, u, v, e⟩ := x; exact ⟨t, u, v, k _ _ (.inl rfl) e⟩
  | frz ob u ih => obtain ⟨e, q⟩ := x; exact ⟨k _ _ (.inl rfl) e, ih q⟩
  | tbl ps =>
    have e : h.get? a = some { cls := .none, data := .fields ps } := x
    show h'.get? a = some { cls := .none, data := .fields ps }
    exact k a _ (.inl rfl) e
  | met f y =>
    have e : h.get? a = some (PySem.W.methodObj (.ref f) (.ref y)) := x
    show h'.get? a = some (PySem.W.methodObj (.ref f) (.ref y))
    exact k a _ (.inl rfl) e
  | ext φ => obtain ⟨p, ⟨o, e⟩, st⟩ := x; exact ⟨st _ _ p fun o q => k _ _ (.inl rfl) q, ⟨o, k _ _ (.inl rfl) e⟩, st⟩
theorem HOk.lt (x : HOk P w H h) (e : H a = some o) : a < h.objs.size := (x a o e).lt
theorem HOk.fresh (x : HOk P w H h) (e : h.objs.size ≤ a) : H a = none := by
  cases q : H a with
  | none => rfl
  | some u => exact absurd (Nat.lt_of_lt_of_le (x.lt q) e) (Nat.lt_irrefl _)
theorem HOk.kept (x : HOk P w H h) (k : ∀ b u, h.get? b = some u → h'.get? b = some u) : HOk P w H h' := fun a o e =>
  (x a o e).stay (fun b u _ q => k b u q) (fun _ q => q) fun _ _ q => q
theorem HOk.laid (x : HOk P w H h) (k : ∀ b u, h.get? b = some u → h'.get? b = some u) (hp : h.objs.size ≤ a) (new : ObjOk P w (upd H a o) h' a o) : HOk P w (upd H a o) h' := fun b u e => by
  have hn := x.fresh hp
  by_cases hb : b = a
  · subst hb; rw [upd_same] at e; cases e; exact new
  · rw [upd_ne hb] at e
    exact (x b u e).stay (fun c v _ q => k c v q) (fun c q => by rw [upd_ne (ne_of_none q hn)]; exact q) fun c xs q => by rw [upd_ne (ne_of_none q hn)]; exact q
end
def Rd (H : Hp) (a : Addr) (u : HO) : Prop := H a = some u ∨ ∃ o, H a = some (.frz o u)
theorem Rd.of {H : Hp} {a : Addr} {u : HO} (h : H a = some u) : Rd H a u := .inl h
theorem Rd.ok {P : Program} {w : World} {H : Hp} {h : Heap} {a : Addr} {u : HO} (r : Rd H a u) (x : HOk P w H h) : ObjOk P w H h a u := by
  rcases r with r | ⟨o, r⟩
  · exact x a u r
  · obtain ⟨_, q⟩ := x a _ r
    exact q
def Mut : Option HO → Prop
  | some (.lst _) => True
  | some (.dK _) => True
  | some (.dT _) => True
  | some (.set _ _) => True
  | some (.ins _ _ _) => True
  | some (.ext _) => True
  | _ => False
section
variable {P : Program} {w : World} {H : Hp} {h h' : Heap} {x e : Addr} {o' : HO}
theorem HOk.write (ok : HOk P w H h) (mu : Mut (H x)) (he : e = x ∨ H e = some (.own x)) (k : ∀ b u, b ≠ e → h.get? b = some u → h'.get? b = some u) (heo : ∃ u, h'.get? e = some u)
    (new : ObjOk P w (upd H x o') h' x o') : HOk P w (upd H x o') h' := fun b u q => by
  have nown : ∀ c y, H c = some (.own y) → c ≠ x := fun c y r z => by subst z; rw [r] at mu; exact mu
  have ntup : ∀ c xs, H c = some (.tup xs) → c ≠ x := fun c xs r z => by subst z; rw [r] at mu; exact mu
  by_cases hb : b = x
  · subst hb; rw [upd_same] at q; cases q; exact new
  · rw [upd_ne hb] at q
    by_cases hbe : b = e
    · have q' : H b = some (.own x) := by
        rcases he with z | z
        · exact absurd (hbe.trans z) hb
        · rw [hbe]; exact z
      rw [q] at q'; cases q'
      obtain ⟨v, hv⟩ := heo
      exact ⟨v, by rw [hbe]; exact hv⟩
    · refine (ok b u q).stay (fun c v hc r => k c v ?_ r) (fun c r => by rw [upd_ne (nown c b r)]; exact r) fun c xs r => by rw [upd_ne (ntup c xs r)]; exact r
      rcases hc with rfl | hc
      · exact hbe
      · rintro rfl
        rcases he with z | z
        · exact nown c b hc z
        · rw [hc] at z; cases z; exact hb rfl
end
structure Un (fs ex : List Addr) (H H' : Hp) (h h' : Heap) : Prop where
  keep : ∀ b o, h.get? b = some o → H b = none → b ∉ fs → b ∉ ex → h'.get? b = some o
  slot : ∀ b o, h.get? b = some o → H b = none → b ∈ fs → b ∉ ex → ∃ sl, h'.get? b = some { o with slots := sl }
  free : ∀ b o, h.get? b = some o → H b = none → b ∉ ex → H' b = none
  there : ∀ b o, h.get? b = some o → b ∉ ex → ∃ o', h'.get? b = some o'
  tups : ∀ b xs, H b = some (.tup xs) → H' b = some (.tup xs)
  frzs : ∀ b o u, H b = some (.frz o u) → H' b = some (.frz o u)
  tbls : ∀ b ps, H b = some (.tbl ps) → ∃ more, H' b = some (.tbl (ps ++ more))
section
variable {fs fs' ex ex' : List Addr} {H H1 H2 : Hp} {h h1 h2 h' : Heap} {a x e : Addr} {o : HO}
theorem Un.any (u : Un fs ex H H1 h h1) {b : Addr} {ob : Obj} (q : h.get? b = some ob) (n : H b = none) (hx : b ∉ ex) : ∃ sl, h1.get? b = some { ob with slots := sl } := by
  by_cases hb : b ∈ fs
  · exact u.slot b ob q n hb hx
  · exact ⟨ob.slots, u.keep b ob q n hb hx⟩
theorem Un.kept (k : ∀ b u, h.get? b = some u → h'.get? b = some u) : Un fs ex H H h h' :=
  ⟨fun b ob q _ _ _ => k b ob q, fun b ob q _ _ _ => ⟨ob.slots, k b ob q⟩, fun _ _ _ n _ => n, fun b ob q _ => ⟨ob, k b ob q⟩, fun _ _ q => q, fun _ _ _ q => q, fun _ ps q => ⟨#[], by rw [q]; simp⟩⟩
theorem Un.refl : Un fs ex H H h h := Un.kept fun _ _ q => q
theorem Un.laid (k : ∀ b u, h.get? b = some u → h'.get? b = some u) (hp : h.objs.size ≤ a) (hn : H a = none) : Un fs ex H (upd H a o) h h' where
  keep := fun b u q _ _ _ => k b u q
  slot := fun b u q _ _ _ => ⟨u.slots, k b u q⟩
  free := fun b u q n _ => by rw [upd_ne (Nat.ne_of_lt (Nat.lt_of_lt_of_le (Heap.lt_size q) hp))]; exact n
  there := fun b u q _ => ⟨u, k b u q⟩
  tups := fun b xs q => by rw [upd_ne (ne_of_none q hn)]; exact q
  frzs := fun b u xs q => by rw [upd_ne (ne_of_none q hn)]; exact q
  tbls := fun b ps q => ⟨#[], by rw [upd_ne (ne_of_none q hn), q]; simp⟩
theorem Un.write (mu : Mut (H x)) (he : e = x ∨ H e = some (.own x)) (k : ∀ b u, b ≠ e → h.get? b = some u → h'.get? b = some u) (heo : ∃ u, h'.get? e = some u) : Un fs ex H (upd H x o) h h' := by
  have hx : ∀ b, H b = none → b ≠ x := fun b n z => by subst z; rw [n] at mu; exact mu
  have hb : ∀ b, H b = none → b ≠ e := fun b n z => by
    subst z
    rcases he with r | r
    · exact hx b n r
    · rw [n] at r; cases r
  have hm : ∀ b u, H b = some u → ¬ Mut (some u) → b ≠ x := fun b u q nm z => by subst z; rw [q] at mu; exact nm mu
  refine ⟨fun b u q n _ _ => k b u (hb b n) q, fun b u q n _ _ => ⟨u.slots, k b u (hb b n) q⟩, fun b u q n _ => by rw [upd_ne (hx b n)]; exact n, fun b u q _ => ?_,
    fun b xs q => by rw [upd_ne (hm b _ q fun z => z)]; exact q, fun b u xs q => by rw [upd_ne (hm b _ q fun z => z)]; exact q, fun b ps q => ⟨#[], by rw [upd_ne (hm b _ q fun z => z), q]; simp⟩⟩
  by_cases hbe : b = e
  · subst hbe; exact heo
  · exact ⟨u, k b u hbe q⟩
end
def trk (h : Heap) (H : Hp) : List Addr := (List.range h.objs.size).filter fun a => (H a).isSome
def hidT (h : Heap) (H : Hp) : Heap := PySem.W.hideAll h (trk h H)
theorem hidT_size (h : Heap) (H : Hp) : (hidT h H).objs.size = h.objs.size := PySem.W.hideAll_size _ _
theorem hidT_get {h : Heap} {H : Hp} {b : Addr} {o : Obj} (e : h.get? b = some o) (n : H b = none) : (hidT h H).get? b = some o :=
  PySem.W.hideAll_get _ e fun hm => by
    have q : (H b).isSome = true := (List.mem_filter.mp hm).2
    rw [n] at q; simp at q
theorem of_hidT {h : Heap} {H : Hp} {b : Addr} {o : Obj} (e : (hidT h H).get? b = some o) : h.get? b = some o ∧ H b = none := by
  have e' : h.get? b = some o := PySem.W.of_hideAll (trk h H) e
  refine ⟨e', ?_⟩
  cases q : H b with
  | none => rfl
  | some x =>
    have hm : b ∈ trk h H := List.mem_filter.mpr ⟨List.mem_range.mpr (Heap.lt_size e'), by simp [q]⟩
    have z : (hidT h H).get? b = none := PySem.W.hideAll_none (trk h H) hm
    rw [z] at e; cases e
end L2
namespace L2
open PySem PySem.Spec PyProof.Rows
structure Mod (K : PySem.W.Frag) (mg : Str → Option Value) (base : Heap) : Prop where
  kin : K.In base
  glob : base.Ns mainGlobals mg
  blt : ∃ mb, base.Ns builtinsNs mb ∧ ∀ x : Str, x ≠ "__name__" → mb x = bootBuiltins x
  nolimit : base.NoLimit
structure Cx where
  prog : Program
  w : World
  K : PySem.W.Frag
  mg : Str → Option Value
  base : Heap
  A : Around
  N : List Str
  s₀ : Shared
  H₀ : Hp
  env : Env
  outer : List Env
  stack : List Env
  ex : List Addr
  fn : Str → Bool
  calm : Bool
  pn : List (Addr × Obj)
  xe : Value → Shared → Prop
def frs (l : List Env) : List Addr := l.filterMap (·.frame)
abbrev Cx.fs (X : Cx) : List Addr := frs X.outer
def Vis (sc : Scope) (x : Str) : Prop := sc.names.lookup x = some .local ∨ sc.names.lookup x = some .cell ∨ sc.names.lookup x = some .free
def Loc (sc : Scope) (x : Str) : Prop := sc.names.lookup x = some .local ∨ sc.names.lookup x = some .cell
def Look (env : Env) (h : Heap) (m : Str → Option Value) (x : Str) (u : Value) : Prop :=
  (env.kindOf x = some .local ∧ m x = some u) ∨ ((env.kindOf x = some .cell ∨ env.kindOf x = some .free) ∧ ∃ c, env.cells.lookup x = some c ∧ h.IsCell c (some u))
structure Cx.Ok (X : Cx) : Prop where
  mod : Mod X.K X.mg X.base
  kind : X.env.scope.kind = .function
  glob : X.env.globals = mainGlobals
  blt : X.env.builtins = builtinsNs
  above : X.s₀.heap.objs.size ≤ X.env.locals
  inj : ∀ x y c, X.env.cells.lookup x = some c → X.env.cells.lookup y = some c → x = y
  has : ∀ x, (X.env.kindOf x = some .cell ∨ X.env.kindOf x = some .free) → ∃ c, X.env.cells.lookup x = some c
  cab : ∀ x c, X.fn x = true → X.env.cells.lookup x = some c → X.s₀.heap.objs.size ≤ c
  hd : X.calm = true → X.A.handled = none
  frames : X.A.frames = some X.stack
  stk : X.stack = X.outer ∨ (X.stack = X.env :: X.outer ∧ X.env.frame = some X.env.locals)
  exf : ∀ b ∈ X.ex, b ≠ X.env.locals ∧ ∀ x c, X.env.cells.lookup x = some c → c ≠ b
  bs : ∀ b o, X.base.get? b = some o → X.s₀.heap.get? b = some o ∧ X.H₀ b = none
  bsz : X.base.objs.size ≤ X.s₀.heap.objs.size
  noex : ∀ b o, X.base.get? b = some o → b ∉ X.ex
  exfs : ∀ b ∈ X.ex, b ∉ X.fs
  funs : X.s₀.heap.FunFrames X.base X.outer
  frf : ∀ b ∈ X.fs, X.H₀ b = none
structure Inv (X : Cx) (pins : List (Addr × Obj)) (σ : List (Option V)) (H : Hp) (s : Shared) : Prop where
  ok : X.Ok
  os : s.os = X.s₀.os
  bare : AllBare s.gens
  base : Un X.fs X.ex X.H₀ H X.s₀.heap s.heap
  loc : ∃ m, s.heap.Ns X.env.locals m ∧ ∀ (i : Nat) (x : Str) (v : V), X.N[i]? = some x → σ[i]? = some (some v) → Vis X.env.scope x → ∃ u, RelV v u ∧ Look X.env s.heap m x u
  cell : ∀ x c, X.env.cells.lookup x = some c → ∃ v, s.heap.IsCell c v
  free : H X.env.locals = none
  freeC : ∀ x c, X.env.cells.lookup x = some c → H c = none
  pin : ∀ p ∈ X.pn ++ pins, s.heap.get? p.1 = some p.2 ∧ H p.1 = none ∧ p.1 ≠ X.env.locals ∧ p.1 ∉ X.fs ∧ ∀ v, p.2.data ≠ .cell v
  hok : HOk X.prog X.w H s.heap
  len : σ.length = X.N.length
section
variable {X : Cx} {pins : List (Addr × Obj)} {σ : List (Option V)} {H H' : Hp} {s : Shared} {h' : Heap}
theorem Cx.Ok.nofr (ok : X.Ok) {b : Addr} {o : Obj} (e : X.base.get? b = some o) : b ∉ X.fs := fun hb => by
  have := (ok.funs.mem hb).1
  rw [e] at this; cases this
theorem Inv.bs (I : Inv X pins σ H s) : ∀ b o, X.base.get? b = some o → s.heap.get? b = some o ∧ H b = none := fun b o e =>
  ⟨I.base.keep b o (I.ok.bs b o e).1 (I.ok.bs b o e).2 (I.ok.nofr e) (I.ok.noex b o e), I.base.free b o (I.ok.bs b o e).1 (I.ok.bs b o e).2 (I.ok.noex b o e)⟩
theorem Inv.bk (I : Inv X pins σ H s) : ∀ b o, X.base.get? b = some o → s.heap.get? b = some o := fun b o e => (I.bs b o e).1
theorem Inv.mod (I : Inv X pins σ H s) : Mod X.K X.mg X.base := I.ok.mod
theorem Inv.kIn (I : Inv X pins σ H s) : X.K.In s.heap := I.ok.mod.kin.keeps I.bk
theorem Inv.lt (I : Inv X pins σ H s) : X.env.locals < s.heap.objs.size := let ⟨_, hn, _⟩ := I.loc; hn.lt
theorem Inv.sz (I : Inv X pins σ H s) : X.s₀.heap.objs.size ≤ s.heap.objs.size := Nat.le_trans I.ok.above (Nat.le_of_lt I.lt)
theorem Inv.nofs (I : Inv X pins σ H s) {a : Addr} (h : s.heap.objs.size ≤ a) : a ∉ X.fs := fun hb => by
  obtain ⟨_, o, ho, _⟩ := I.ok.funs.mem hb
  exact absurd (Nat.lt_of_lt_of_le (Heap.lt_size ho) (Nat.le_trans I.sz h)) (Nat.lt_irrefl _)
theorem Inv.cne (I : Inv X pins σ H s) : ∀ x c, X.env.cells.lookup x = some c → c ≠ X.env.locals := fun x c e z => by
  obtain ⟨v, o, ho, hd⟩ := I.cell x c e
  obtain ⟨m, ⟨o', es, ep, ho', hd', _⟩, _⟩ := I.loc
  rw [z, ho'] at ho; cases ho; rw [hd'] at hd; cases hd
theorem Inv.funs (I : Inv X pins σ H s) : s.heap.FunFrames X.base X.outer := by
  have all : ∀ (l : List Env), (∀ b ∈ frs l, b ∈ X.fs) → X.s₀.heap.FunFrames X.base l → s.heap.FunFrames X.base l := by
    intro l
    induction l with
    | nil => intro _ _; trivial
    | cons env r ih =>
      intro hs hl
      obtain ⟨hk, ⟨L, o, hf, hn, ho, hd⟩, hr⟩ := hl
      have hL : L ∈ X.fs := hs L (by unfold frs; rw [List.filterMap_cons, hf]; exact List.mem_cons_self)
      obtain ⟨sl, e⟩ := I.base.slot L o ho (I.ok.frf L hL) hL fun z => I.ok.exfs L z hL
      exact ⟨hk, ⟨L, _, hf, hn, e, hd⟩, ih (fun b hb => hs b (by unfold frs; rw [List.filterMap_cons, hf]; exact List.mem_cons_of_mem _ hb)) hr⟩
  exact all X.outer (fun _ hb => hb) I.ok.funs
theorem Inv.stack (I : Inv X pins σ H s) : s.heap.FunFrames X.base X.stack := by
  rcases I.ok.stk with e | ⟨e, hf⟩
  · rw [e]; exact I.funs
  · rw [e]
    obtain ⟨m, hn, _⟩ := I.loc
    refine .cons (by rw [I.ok.kind]; decide) hf hn ?_ I.funs
    exact Heap.get?_none_of_le (Nat.le_trans I.ok.bsz I.ok.above)
theorem Inv.stkSub (I : Inv X pins σ H s) : ∀ b ∈ frs X.stack, b ∈ X.env.locals :: X.fs := fun b hb => by
  rcases I.ok.stk with e | ⟨e, hf⟩
  · rw [e] at hb; exact List.mem_cons_of_mem _ hb
  · rw [e] at hb
    unfold frs at hb
    rw [List.filterMap_cons, hf] at hb
    exact hb
theorem Inv.stkFree (I : Inv X pins σ H s) : ∀ b ∈ frs X.stack, H b = none := fun b hb => by
  rcases List.mem_cons.mp (I.stkSub b hb) with e | hb
  · rw [e]; exact I.free
  · obtain ⟨_, o, ho, _⟩ := I.ok.funs.mem hb
    exact I.base.free b o ho (I.ok.frf b hb) fun z => I.ok.exfs b z hb
theorem Inv.step {g' : Array GenState} {t' : Nat} {d' : Drawn} {ch : List Addr} (I : Inv X pins σ H s)
    (hch : ∀ b ∈ ch, (b ∈ X.ex ∨ X.s₀.heap.objs.size ≤ b) ∧ b ≠ X.env.locals ∧ (∀ x c, X.env.cells.lookup x = some c → c ≠ b) ∧ ∀ p ∈ X.pn ++ pins, p.1 ≠ b)
    (keep : ∀ b o, b ≠ X.env.locals → b ∉ X.fs → b ∉ ch → s.heap.get? b = some o → H b = none → h'.get? b = some o)
    (slot : ∀ b o, b ≠ X.env.locals → b ∈ X.fs → b ∉ ch → s.heap.get? b = some o → H b = none → ∃ sl, h'.get? b = some { o with slots := sl }) (free : ∀ b o, b ∉ ch → s.heap.get? b = some o → H b = none → H' b = none)
    (there : ∀ b o, b ∉ ch → s.heap.get? b = some o → ∃ o', h'.get? b = some o')
    (tups : ∀ b xs, H b = some (.tup xs) → H' b = some (.tup xs)) (frzs : ∀ b o u, H b = some (.frz o u) → H' b = some (.frz o u)) (tbls : ∀ b ps, H b = some (.tbl ps) → ∃ more, H' b = some (.tbl (ps ++ more)))
    (ns : ∀ m, s.heap.Ns X.env.locals m → h'.Ns X.env.locals m) (hok : HOk X.prog X.w H' h') (hg : AllBare g') :
    Inv X pins σ H' { s with heap := h', gens := g', drawn := d', toks := t' } := by
  have neL : ∀ b o, X.s₀.heap.get? b = some o → b ≠ X.env.locals := fun b o e => Nat.ne_of_lt (Nat.lt_of_lt_of_le (Heap.lt_size e) I.ok.above)
  have neC : ∀ b o, X.s₀.heap.get? b = some o → b ∉ X.ex → b ∉ ch := fun b o e hx hb => by
    rcases (hch b hb).1 with z | z
    · exact hx z
    · exact absurd (Nat.lt_of_lt_of_le (Heap.lt_size e) z) (Nat.lt_irrefl _)
  have cellK : ∀ x c, X.env.cells.lookup x = some c → ∀ v, s.heap.IsCell c v → h'.IsCell c v := fun x c e v ⟨o, ho, hd⟩ => by
    have nch : c ∉ ch := fun z => (hch c z).2.2.1 x c e rfl
    by_cases hc : c ∈ X.fs
    · obtain ⟨sl, q⟩ := slot c o (I.cne x c e) hc nch ho (I.freeC x c e)
      exact ⟨_, q, hd⟩
    · exact ⟨o, keep c o (I.cne x c e) hc nch ho (I.freeC x c e), hd⟩
  refine ⟨I.ok, I.os, hg, ⟨fun b o e n hb hx => ?_, fun b o e n hb hx => ?_, fun b o e n hx => ?_, fun b o e hx => ?_, fun b xs e => tups b xs (I.base.tups b xs e), fun b o xs e => frzs b o xs (I.base.frzs b o xs e), fun b ps e => ?_⟩, ?_, fun x c e => ?_, ?_, fun x c e => ?_, fun p hp => ?_, hok, I.len⟩
  · exact keep b o (neL b o e) hb (neC b o e hx) (I.base.keep b o e n hb hx) (I.base.free b o e n hx)
  · obtain ⟨sl, e1⟩ := I.base.slot b o e n hb hx
    obtain ⟨sl', e2⟩ := slot b _ (neL b o e) hb (neC b o e hx) e1 (I.base.free b o e n hx)
    exact ⟨sl', e2⟩
  · obtain ⟨o', e1⟩ := I.base.there b o e hx
    exact free b o' (neC b o e hx) e1 (I.base.free b o e n hx)
  · obtain ⟨o', e1⟩ := I.base.there b o e hx
    exact there b o' (neC b o e hx) e1
  · obtain ⟨m1, e1⟩ := I.base.tbls b ps e
    obtain ⟨m2, e2⟩ := tbls b _ e1
    exact ⟨m1 ++ m2, by rw [e2, Array.append_assoc]⟩
  · obtain ⟨m, hn, hl⟩ := I.loc
    refine ⟨m, ns m hn, fun i x v e1 e2 e3 => ?_⟩
    obtain ⟨u, r, l⟩ := hl i x v e1 e2 e3
    refine ⟨u, r, ?_⟩
    rcases l with l | ⟨k, c, e, z⟩
    · exact .inl l
    · exact .inr ⟨k, c, e, cellK x c e _ z⟩
  · obtain ⟨v, z⟩ := I.cell x c e
    exact ⟨v, cellK x c e v z⟩
  · obtain ⟨m, ⟨o, _, _, ho, _⟩, _⟩ := I.loc
    exact free _ o (fun z => (hch _ z).2.1 rfl) ho I.free
  · obtain ⟨v, o, ho, hd⟩ := I.cell x c e
    exact free c o (fun z => (hch c z).2.2.1 x c e rfl) ho (I.freeC x c e)
  · obtain ⟨e, n, ne, nf, d⟩ := I.pin p hp
    have nch : p.1 ∉ ch := fun z => (hch p.1 z).2.2.2 p hp rfl
    exact ⟨keep p.1 p.2 ne nf nch e n, free p.1 p.2 nch e n, ne, nf, d⟩
theorem Inv.un {t' : Nat} (I : Inv X pins σ H s) (u : Un X.fs [] H H' s.heap h') (hok : HOk X.prog X.w H' h') : Inv X pins σ H' { s with heap := h', toks := t' } := by
  obtain ⟨m, ⟨o, es, ep, ho, r⟩, _⟩ := id I.loc
  obtain ⟨sl, hL⟩ := u.any ho I.free (by simp)
  exact I.step (g' := s.gens) (d' := s.drawn) (ch := []) (fun _ z => nomatch z) (fun b o _ hb _ e n => u.keep b o e n hb (by simp)) (fun b o _ hb _ e n => u.slot b o e n hb (by simp)) (fun b o _ e n => u.free b o e n (by simp)) (fun b o _ e => u.there b o e (by simp)) u.tups u.frzs u.tbls (fun m' hm => by
    obtain ⟨o', es', ep', ho', r'⟩ := hm
    rw [ho] at ho'; cases ho'
    exact ⟨_, es', ep', hL, r'⟩) hok I.bare
theorem Inv.call {g' : Array GenState} {t' : Nat} {d' : Drawn} {ch : List Addr} (I : Inv X pins σ H s) (u : Un (frs X.stack) ch H H' s.heap h') (hok : HOk X.prog X.w H' h') (hg : AllBare g')
    (hch : ∀ b ∈ ch, (b ∈ X.ex ∨ X.s₀.heap.objs.size ≤ b) ∧ b ≠ X.env.locals ∧ (∀ x c, X.env.cells.lookup x = some c → c ≠ b) ∧ ∀ p ∈ X.pn ++ pins, p.1 ≠ b) :
    Inv X pins σ H' { s with heap := h', gens := g', drawn := d', toks := t' } := by
  obtain ⟨m, ⟨o, es, ep, ho, r⟩, _⟩ := id I.loc
  obtain ⟨sl, hL⟩ := u.any ho I.free fun z => (hch _ z).2.1 rfl
  exact I.step (ch := ch) hch (fun b o hL hb hc e n => u.keep b o e n (fun z => (List.mem_cons.mp (I.stkSub b z)).elim hL hb) hc) (fun b o _ _ hc e n => u.any e n hc) (fun b o hc e n => u.free b o e n hc) (fun b o hc e => u.there b o e hc) u.tups u.frzs u.tbls (fun m' hm => by
    obtain ⟨o', es', ep', ho', r'⟩ := hm
    rw [ho] at ho'; cases ho'
    exact ⟨_, es', ep', hL, r'⟩) hok hg
theorem Inv.turned {t' : Nat} {it : Addr} (I : Inv X pins σ H s) (k : ∀ b o, b ≠ it → s.heap.get? b = some o → h'.get? b = some o) (hn : H it = none) (hL : it ≠ X.env.locals)
    (h1 : it ∈ X.ex ∨ X.s₀.heap.objs.size ≤ it) (h2 : ∀ x c, X.env.cells.lookup x = some c → c ≠ it) (h3 : ∀ p ∈ X.pn ++ pins, p.1 ≠ it) : Inv X pins σ H { s with heap := h', toks := t' } := by
  have nit : ∀ b u, H b = some u → b ≠ it := fun b u e z => by rw [z, hn] at e; cases e
  refine I.step (g' := s.gens) (d' := s.drawn) (ch := [it]) (fun b hb => ?_) (fun b o _ _ hc e _ => k b o (fun z => hc (by simp [z])) e) (fun b o _ _ hc e _ => ⟨o.slots, k b o (fun z => hc (by simp [z])) e⟩) (fun _ _ _ _ n => n)
    (fun b o hc e => ⟨o, k b o (fun z => hc (by simp [z])) e⟩) (fun _ _ e => e) (fun _ _ _ e => e) (fun b ps e => ⟨#[], by rw [e]; simp⟩) (fun m hm => ?_) (fun b u e => ?_) I.bare
  · have e : b = it := by simpa using hb
    subst e
    exact ⟨h1, hL, h2, h3⟩
  · obtain ⟨o, es, ep, ho, r⟩ := hm
    exact ⟨o, es, ep, k _ o (Ne.symm hL) ho, r⟩
  · refine (I.hok b u e).stay (fun c v hc q => k c v ?_ q) (fun _ q => q) fun _ _ q => q
    rcases hc with z | z
    · rw [z]; exact nit b u e
    · exact nit c _ z
theorem Inv.tok (I : Inv X pins σ H s) (t : Nat) : Inv X pins σ H { s with toks := t } := I.un (h' := s.heap) (t' := t) Un.refl I.hok
theorem Inv.kept {t' : Nat} (I : Inv X pins σ H s) (k : ∀ b u, s.heap.get? b = some u → h'.get? b = some u) : Inv X pins σ H { s with heap := h', toks := t' } := I.un (Un.kept k) (I.hok.kept k)
theorem Inv.laid {a : Addr} {o : HO} {t' : Nat} (I : Inv X pins σ H s) (k : ∀ b u, s.heap.get? b = some u → h'.get? b = some u) (hp : s.heap.objs.size ≤ a) (new : ObjOk X.prog X.w (upd H a o) h' a o) :
    Inv X pins σ (upd H a o) { s with heap := h', toks := t' } := I.un (Un.laid k hp (I.hok.fresh hp)) (I.hok.laid k hp new)
theorem Inv.write {x e : Addr} {o : HO} {t' : Nat} (I : Inv X pins σ H s) (mu : Mut (H x)) (he : e = x ∨ H e = some (.own x)) (k : ∀ b u, b ≠ e → s.heap.get? b = some u → h'.get? b = some u) (heo : ∃ u, h'.get? e = some u)
    (new : ObjOk X.prog X.w (upd H x o) h' x o) : Inv X pins σ (upd H x o) { s with heap := h', toks := t' } := I.un (Un.write mu he k heo) (I.hok.write mu he k heo new)
theorem Inv.pins_of {pins' : List (Addr × Obj)} (I : Inv X pins σ H s) (h : ∀ p ∈ pins', s.heap.get? p.1 = some p.2 ∧ H p.1 = none ∧ p.1 ≠ X.env.locals ∧ p.1 ∉ X.fs ∧ ∀ v, p.2.data ≠ .cell v) : Inv X pins' σ H s :=
  ⟨I.ok, I.os, I.bare, I.base, I.loc, I.cell, I.free, I.freeC, fun p hp => (List.mem_append.mp hp).elim (fun z => I.pin p (List.mem_append_left _ z)) (h p), I.hok, I.len⟩
theorem nodup_ix {N : List Str} (hN : N.Nodup) {i j : Nat} {x : Str} (a : N[i]? = some x) (b : N[j]? = some x) : i = j := by
  obtain ⟨h1, e1⟩ := List.getElem?_eq_some_iff.mp a
  obtain ⟨h2, e2⟩ := List.getElem?_eq_some_iff.mp b
  exact (List.getElem_inj hN).mp (e1.trans e2.symm)
theorem store_ok2 {M : Model} {A : Around} {E : Value → Shared → Prop} {i : Nat} {x : Str} {v : V} {u : Value} {Q : Unit → Shared → Prop} (I : Inv X pins σ H s) (hN : X.N.Nodup) (hi : X.N[i]? = some x) (hx : Loc X.env.scope x) (r : RelV v u)
    (h : ∀ s', Inv X pins (σ.set i (some v)) H s' → (∃ a, Heap.SameBut a s.heap s'.heap ∧ (a = X.env.locals ∨ X.env.cells.lookup x = some a)) → Q () s') (hf : X.fn x = true ∨ X.env.scope.names.lookup x = some .local := by first | exact .inl rfl | exact .inr rfl | assumption) : wpAny M A (storeName X.env x u) Q E s := by
  obtain ⟨m, hn, hl⟩ := id I.loc
  have hcls : (X.env.scope.kind == .class || (X.env.scope.kind == .module && X.env.locals != X.env.globals)) = false := by rw [I.ok.kind]; rfl
  have hiσ : i < σ.length := by rw [I.len]; exact (List.getElem?_eq_some_iff.mp hi).1
  have cne := I.cne
  have tracked : ∀ {a : Addr} {h' : Heap}, (∃ o, s.heap.get? a = some o ∧ H a = none) → Heap.SameBut a s.heap h' → HOk X.prog X.w H h' := fun {a h'} ha hs b ob e => by
    obtain ⟨_, _, hfree⟩ := ha
    refine (I.hok b ob e).stay (fun c w' hc q => (hs.2 c ?_).trans q) (fun _ q => q) fun _ _ q => q
    rintro rfl
    rcases hc with rfl | hc
    · rw [hfree] at e; cases e
    · rw [hfree] at hc; cases hc
  rcases hx with hk | hk
  · refine wpAny_storeName_local hk hn (fun h' hn' hs => ?_) hcls
    obtain ⟨oL, _, _, hoL, _⟩ := id hn
    refine h _ ⟨I.ok, I.os, I.bare, ⟨fun b o e n hb hx => ?_, fun b o e n hb hx => ?_, I.base.free, fun b o e hx => ?_, I.base.tups, I.base.frzs, I.base.tbls⟩, ⟨_, hn', fun j y v' e1 e2 e3 => ?_⟩, fun y c e => ?_, I.free, I.freeC, fun p hp => ?_, tracked ⟨oL, hoL, I.free⟩ hs, by simpa using I.len⟩ ⟨_, hs, .inl rfl⟩
    · exact (hs.2 b (Nat.ne_of_lt (Nat.lt_of_lt_of_le (Heap.lt_size e) I.ok.above))).trans (I.base.keep b o e n hb hx)
    · obtain ⟨sl, e1⟩ := I.base.slot b o e n hb hx
      exact ⟨sl, (hs.2 b (Nat.ne_of_lt (Nat.lt_of_lt_of_le (Heap.lt_size e) I.ok.above))).trans e1⟩
    · obtain ⟨o', e1⟩ := I.base.there b o e hx
      exact ⟨o', (hs.2 b (Nat.ne_of_lt (Nat.lt_of_lt_of_le (Heap.lt_size e) I.ok.above))).trans e1⟩
    · by_cases hj : j = i
      · subst hj
        rw [hi] at e1; cases e1
        rw [List.getElem?_set_self hiσ] at e2
        cases e2
        exact ⟨u, r, .inl ⟨hk, by simp⟩⟩
      · rw [List.getElem?_set_ne (Ne.symm hj)] at e2
        obtain ⟨u', r', q⟩ := hl j y v' e1 e2 e3
        refine ⟨u', r', ?_⟩
        rcases q with ⟨k, e⟩ | ⟨k, c, e, z⟩
        · refine .inl ⟨k, ?_⟩
          have : y ≠ x := fun e => hj (nodup_ix hN e1 (e ▸ hi))
          simp [this, e]
        · exact .inr ⟨k, c, e, z.sameBut hs (cne y c e)⟩
    · obtain ⟨w', z⟩ := I.cell y c e
      exact ⟨w', z.sameBut hs (cne y c e)⟩
    · obtain ⟨e, n, ne, nf, d⟩ := I.pin p hp
      exact ⟨(hs.2 p.1 ne).trans e, n, ne, nf, d⟩
  · have hfn : X.fn x = true := by
      rcases hf with z | z
      · exact z
      · rw [z] at hk; cases hk
    obtain ⟨c, hc⟩ := I.ok.has x (.inl hk)
    obtain ⟨w', z⟩ := I.cell x c hc
    refine wpAny_storeName_cell I.ok.kind hk hc z (fun h' hc' hs => ?_)
    obtain ⟨oc, hoc, hocd⟩ := id z
    refine h { s with heap := h' } ⟨I.ok, I.os, I.bare, ⟨fun b o e n hb hx => ?_, fun b o e n hb hx => ?_, I.base.free, fun b o e hx => ?_, I.base.tups, I.base.frzs, I.base.tbls⟩, ⟨m, hn.sameBut hs (Ne.symm (cne x c hc)), fun j y v' e1 e2 e3 => ?_⟩, fun y c' e => ?_, I.free, I.freeC, fun p hp => ?_, tracked ⟨oc, hoc, I.freeC x c hc⟩ hs, by simpa using I.len⟩ ⟨c, hs, .inr hc⟩
    · exact (hs.2 b (Nat.ne_of_lt (Nat.lt_of_lt_of_le (Heap.lt_size e) (I.ok.cab x c hfn hc)))).trans (I.base.keep b o e n hb hx)
    · obtain ⟨sl, e1⟩ := I.base.slot b o e n hb hx
      exact ⟨sl, (hs.2 b (Nat.ne_of_lt (Nat.lt_of_lt_of_le (Heap.lt_size e) (I.ok.cab x c hfn hc)))).trans e1⟩
    · obtain ⟨o', e1⟩ := I.base.there b o e hx
      exact ⟨o', (hs.2 b (Nat.ne_of_lt (Nat.lt_of_lt_of_le (Heap.lt_size e) (I.ok.cab x c hfn hc)))).trans e1⟩
    · by_cases hj : j = i
      · subst hj
        rw [hi] at e1; cases e1
        rw [List.getElem?_set_self hiσ] at e2
        cases e2
        exact ⟨u, r, .inr ⟨.inl hk, c, hc, hc'⟩⟩
      · rw [List.getElem?_set_ne (Ne.symm hj)] at e2
        obtain ⟨u', r', q⟩ := hl j y v' e1 e2 e3
        refine ⟨u', r', ?_⟩
        rcases q with q | ⟨k, c', e, z'⟩
        · exact .inl q
        · refine .inr ⟨k, c', e, z'.sameBut hs ?_⟩
          rintro rfl
          exact hj (nodup_ix hN e1 (I.ok.inj _ _ _ e hc ▸ hi))
    · by_cases hcc : c' = c
      · subst hcc; exact ⟨_, hc'⟩
      · obtain ⟨w2, z2⟩ := I.cell y c' e
        exact ⟨w2, z2.sameBut hs hcc⟩
    · obtain ⟨e, n, ne, nf, d⟩ := I.pin p hp
      refine ⟨(hs.2 p.1 ?_).trans e, n, ne, nf, d⟩
      intro q
      rw [q, hoc] at e
      have q' : oc = p.2 := Option.some.inj e
      exact d w' (by rw [← q']; exact hocd)
theorem store_ok {M : Model} {A : Around} {E : Value → Shared → Prop} {i : Nat} {x : Str} {v : V} {u : Value} {Q : Unit → Shared → Prop} (I : Inv X pins σ H s) (hN : X.N.Nodup) (hi : X.N[i]? = some x) (hx : Loc X.env.scope x) (r : RelV v u)
    (h : ∀ s', Inv X pins (σ.set i (some v)) H s' → Q () s') (hf : X.fn x = true ∨ X.env.scope.names.lookup x = some .local := by first | exact .inl rfl | exact .inr rfl | assumption) : wpAny M A (storeName X.env x u) Q E s :=
  store_ok2 I hN hi hx r (fun s' I' _ => h s' I') hf
theorem Inv.call' {s' : Shared} {ch : List Addr} (I : Inv X pins σ H s) (ho : s'.os = s.os) (u : Un (frs X.stack) ch H H' s.heap s'.heap) (hok : HOk X.prog X.w H' s'.heap) (hg : AllBare s'.gens)
    (hch : ∀ b ∈ ch, (b ∈ X.ex ∨ X.s₀.heap.objs.size ≤ b) ∧ b ≠ X.env.locals ∧ (∀ x c, X.env.cells.lookup x = some c → c ≠ b) ∧ ∀ p ∈ X.pn ++ pins, p.1 ≠ b) : Inv X pins σ H' s' := by
  obtain ⟨h', g', d', t', o'⟩ := s'
  have e : o' = s.os := ho
  subst e
  exact I.call (g' := g') (t' := t') (d' := d') u hok hg hch
end
abbrev XK := Value → Option Addr → Hp → Prop
abbrev St := List (Option V)
abbrev VK := V → Hp → Prop
abbrev TE := St → Hp → VK → Prop
abbrev TT := St → Hp → (Bool → Hp → Prop) → Prop
abbrev TA := St → Hp → (List V → Hp → Prop) → Prop
structure Ends where
  nx : St → Hp → Prop
  rt : VK
  bk : St → Hp → Prop := fun _ _ => False
  ct : St → Hp → Prop := fun _ _ => False
abbrev TS := Ends → St → Hp → Prop
def EP (X : Cx) (pins : List (Addr × Obj)) (σ : St) (Q : VK) (u : Value) (s' : Shared) : Prop := ∃ v H', Inv X pins σ H' s' ∧ RelV v u ∧ Q v H'
def TP (X : Cx) (pins : List (Addr × Obj)) (σ : St) (Q : Bool → Hp → Prop) (b : Bool) (s' : Shared) : Prop := ∃ H', Inv X pins σ H' s' ∧ Q b H'
def AP (X : Cx) (pins : List (Addr × Obj)) (σ : St) (Q : List V → Hp → Prop) (us : List Value) (s' : Shared) : Prop := ∃ vs H', Inv X pins σ H' s' ∧ Vals vs us ∧ Q vs H'
def SP (X : Cx) (pins : List (Addr × Obj)) (D : Ends) (f : Flow) (s' : Shared) : Prop :=
  match f with
  | .next => ∃ σ' H', Inv X pins σ' H' s' ∧ D.nx σ' H'
  | .brk => ∃ σ' H', Inv X pins σ' H' s' ∧ D.bk σ' H'
  | .cont => ∃ σ' H', Inv X pins σ' H' s' ∧ D.ct σ' H'
  | .ret u => ∃ v σ' H', Inv X pins σ' H' s' ∧ RelV v u ∧ D.rt v H'
def PE (X : Cx) (e : Expr) (t : TE) : Prop :=
  ∀ (pins : List (Addr × Obj)) (s : Shared) (σ : St) (H : Hp) (Q : VK), Inv X pins σ H s → t σ H Q → wpAny (model X.prog X.w) X.A (eval e X.env) (EP X pins σ Q) X.xe s
def PT (X : Cx) (e : Expr) (t : TT) : Prop :=
  ∀ (pins : List (Addr × Obj)) (s : Shared) (σ : St) (H : Hp) (Q : Bool → Hp → Prop), Inv X pins σ H s → t σ H Q → wpAny (model X.prog X.w) X.A (isTrue e X.env (eval e X.env)) (TP X pins σ Q) X.xe s
def PW (X : Cx) (e : Expr) (t : TT) : Prop :=
  ∀ (whole : Sem Value) (pins : List (Addr × Obj)) (s : Shared) (σ : St) (H : Hp) (Q : Bool → Hp → Prop), Inv X pins σ H s → t σ H Q → wpAny (model X.prog X.w) X.A (isTrue e X.env whole) (TP X pins σ Q) X.xe s
theorem PW.pt {X : Cx} {e : Expr} {t : TT} (h : PW X e t) : PT X e t := h _
def PA (X : Cx) (es : List Expr) (t : TA) : Prop :=
  ∀ (pos : Pos) (pins : List (Addr × Obj)) (s : Shared) (σ : St) (H : Hp) (Q : List V → Hp → Prop), Inv X pins σ H s → t σ H Q → wpAny (model X.prog X.w) X.A (spliced (backTo pos (starEach es X.env))) (AP X pins σ Q) X.xe s
def PS (X : Cx) (st : Stmt) (t : TS) : Prop :=
  ∀ (pins : List (Addr × Obj)) (s : Shared) (σ : St) (H : Hp) (D : Ends), Inv X pins σ H s → t D σ H → wpAny (model X.prog X.w) X.A (exec st X.env) (SP X pins D) X.xe s
def PSs (X : Cx) (st : List Stmt) (t : TS) : Prop :=
  ∀ (pins : List (Addr × Obj)) (s : Shared) (σ : St) (H : Hp) (D : Ends), Inv X pins σ H s → t D σ H → wpAny (model X.prog X.w) X.A (execs st X.env) (SP X pins D) X.xe s
theorem thn {α : Type} {t : Sem α} {Q Q' : α → Shared → Prop} {M : Model} {A : Around} {E : Value → Shared → Prop} {s : Shared} (h : wpAny M A t Q E s) (hQ : ∀ a s, Q a s → Q' a s) : wpAny M A t Q' E s := wpAny_mono h hQ fun _ _ x => x
end L2
namespace L2
open PySem PySem.Spec PyProof.Rows
section
variable {X : Cx}
def tVar (i : Nat) : TE := fun σ H Q => ∃ v, σ[i]? = some (some v) ∧ Q v H
def tC (v : V) : TE := fun _ H Q => Q v H
theorem pe_var {i : Nat} {x : Str} {pos : Pos} (hN : X.N[i]? = some x) (hv : Vis X.env.scope x) (hd : (x == ("__debug__" : Str)) = false := by decide) (hcd : (x == ("__classdict__" : Str)) = false := by decide) : PE X (.Name x pos) (tVar i) := by
  intro pins s σ H Q I h
  obtain ⟨v, e, h⟩ := h
  obtain ⟨m, hn, hl⟩ := I.loc
  obtain ⟨u, r, l⟩ := hl i x v hN e hv
  have fin : EP X pins σ Q u s := ⟨v, H, I, r, h⟩
  rcases l with ⟨hk, hm⟩ | ⟨hk, c, hc, hcell⟩
  · exact wpAny_Name (wpAny_loadName_local I.ok.kind hk hn hm fin) hd
  · rcases hk with hk | hk
    · exact wpAny_Name (wpAny_loadName_cell I.ok.kind hk hc hcell fin) hd
    · exact wpAny_Name (wpAny_loadName_free I.ok.kind hk hc hcell fin hcd) hd
theorem pe_int {i j pos} : PE X (.Constant (.int i) j pos) (tC (.int i)) := fun _ _ _ H _ I h => wpAny_Constant_int ⟨.int i, H, I.tok _, ⟨_, rfl⟩, h⟩
theorem pe_bl {b j pos} : PE X (.Constant (.bool b) j pos) (tC (.bl b)) := fun _ _ _ H _ I h => Constant_bool ⟨.bl b, H, I, rfl, h⟩
theorem pe_non {j pos} : PE X (.Constant .none j pos) (tC .non) := fun _ _ _ H _ I h => Constant_none ⟨.non, H, I, rfl, h⟩
theorem pe_str {x j pos} : PE X (.Constant (.str x) j pos) (tC (.str x)) := fun _ _ _ H _ I h => Calls.Constant_str ⟨.str x, H, I.tok _, ⟨_, rfl⟩, h⟩
def Gl (X : Cx) (x : Str) : Prop := X.env.kindOf x = some .globalImplicit
theorem ld_glob {E : Value → Shared → Prop} {pins : List (Addr × Obj)} {s : Shared} {σ : St} {H : Hp} {x : Str} {u : Value} {pos : Pos} {Q : Value → Shared → Prop} (I : Inv X pins σ H s) (hg : Gl X x) (hm : X.mg x = some u) (h : Q u s)
    (hd : (x == ("__debug__" : Str)) = false := by decide) : wpAny (model X.prog X.w) X.A (eval (.Name x pos) X.env) Q E s :=
  Calls.Name_function_global I.ok.kind hg (Calls.loadGlobal_global (by rw [I.ok.glob]; exact I.mod.glob.keeps I.bk) hm h) hd
theorem ld_blt {E : Value → Shared → Prop} {pins : List (Addr × Obj)} {s : Shared} {σ : St} {H : Hp} {x : Str} {u : Value} {pos : Pos} {Q : Value → Shared → Prop} (I : Inv X pins σ H s) (hg : Gl X x) (hm : X.mg x = none) (hv : bootBuiltins x = some u) (h : Q u s)
    (hn : x ≠ "__name__" := by decide) (hd : (x == ("__debug__" : Str)) = false := by decide) : wpAny (model X.prog X.w) X.A (eval (.Name x pos) X.env) Q E s := by
  obtain ⟨mb, h1, h2⟩ := I.mod.blt
  exact Calls.Name_function_global I.ok.kind hg (Calls.loadGlobal_builtin (by rw [I.ok.glob]; exact I.mod.glob.keeps I.bk) hm (by rw [I.ok.blt]; exact h1.keeps I.bk) ((h2 x hn).trans hv) h) hd
theorem pe_bltn {x : Str} {v : V} {u : Value} {pos : Pos} (hg : Gl X x) (hm : X.mg x = none) (hv : bootBuiltins x = some u) (r : RelV v u) (hn : x ≠ "__name__" := by decide) (hd : (x == ("__debug__" : Str)) = false := by decide) : PE X (.Name x pos) (tC v) :=
  fun _ _ _ H _ I h => ld_blt I hg hm hv ⟨v, H, I, r, h⟩ hn hd
variable {a b : Expr} {ta tb : TE} {pos : Pos}
def PC (X : Cx) (op : CmpOp) (a b : Expr) (t : TE) : Prop :=
  ∀ (pins : List (Addr × Obj)) (s : Shared) (σ : St) (H : Hp) (Q : VK), Inv X pins σ H s → t σ H Q →
    wpAny (model X.prog X.w) X.A (eval a X.env) (fun v s₁ => wpAny (model X.prog X.w) X.A (eval b X.env) (fun u s₂ => wpAny (model X.prog X.w) X.A (compareOp op v u) (EP X pins σ Q) X.xe s₂) X.xe s₁) X.xe s
theorem nobehind (b : Expr) {op : CmpOp} (h : op ≠ .In) (h2 : op ≠ .NotIn) : behindInMarks op b = false := by
  have e1 : (op == CmpOp.In) = false := by cases op <;> first | rfl | exact absurd rfl h
  have e2 : (op == CmpOp.NotIn) = false := by cases op <;> first | rfl | exact absurd rfl h2
  cases b <;> simp [behindInMarks, e1, e2]
def tNotN (ta : TE) : TE := fun σ H Q => ta σ H fun x H1 => Q (.bl (!decide (x = .non))) H1
theorem RelV.none_iff {x : V} {v : Value} (r : RelV x v) : (v == Value.none) = decide (x = .non) := by
  cases x with
  | non => cases r; rfl
  | bl _ => cases r; rfl
  | int _ => obtain ⟨t, rfl⟩ := r; rfl
  | str _ => obtain ⟨t, rfl⟩ := r; rfl
  | byt _ => obtain ⟨t, rfl⟩ := r; rfl
  | flt _ => obtain ⟨t, rfl⟩ := r; rfl
  | ref _ => cases r; rfl
  | ty _ => cases r; rfl
theorem pc_notN {j pos'} (ha : PE X a ta) : PC X .IsNot a (.Constant .none j pos') (tNotN ta) := by
  intro pins s σ H Q I h
  refine thn (ha pins s σ H _ I h) fun v s1 ⟨x, H1, I1, r1, q1⟩ => ?_
  exact Constant_none (isnot_none_gen ⟨.bl _, H1, I1, by rw [r1.none_iff]; rfl, q1⟩)
def tB (t : TE) : TT := fun σ H Q => t σ H fun x H1 => ∃ c, x = .bl c ∧ Q c H1
theorem pt_cmp {op : CmpOp} {t : TE} (h : PC X op a b t) (h1 : behindInMarks op b = false := by first | exact nobehind _ (by decide) (by decide) | rfl) : PT X (.Compare a [op] [b] pos) (tB t) := by
  intro pins s σ H Q I hw
  refine wpAny_isTrue_Compare1 (thn (h pins s σ H _ I hw) fun v s1 h1 => thn h1 fun u s2 h2 => thn h2 fun c s3 ⟨x, H1, I1, r1, q1⟩ => ?_) h1
  obtain ⟨d, rfl, q⟩ := q1
  cases r1
  exact wpAny_truthy_bool ⟨H1, I1, q⟩
theorem pt_val {e : Expr} {t : TE} (h : PE X e t) (he : ∀ whole, isTrue e X.env whole = (do let v ← whole; standAt e.pos; holding [v] (truthy v)) := by intro _; rfl) : PT X e (tB t) := by
  intro pins s σ H Q I hw
  refine isTrue_plain (thn (h pins s σ H _ I hw) fun v s1 ⟨x, H1, I1, r1, q1⟩ => ?_) (he _)
  obtain ⟨d, rfl, q⟩ := q1
  cases r1
  exact wpAny_truthy_bool ⟨H1, I1, q⟩
variable {tA tB' : TT} {rest : List Expr}
def tAnd (t u : TT) : TT := fun σ H Q => t σ H fun c H1 => if c = true then u σ H1 Q else Q false H1
def tOr (t u : TT) : TT := fun σ H Q => t σ H fun c H1 => if c = true then Q true H1 else u σ H1 Q
def tNot (t : TT) : TT := fun σ H Q => t σ H fun c H1 => Q (!c) H1
theorem pw_and1 (ha : PT X a tA) : PW X (.BoolOp .And [a] pos) tA := by
  intro wh pins s σ H Q I h
  refine isTrue_and (thn (ha pins s σ H Q I h) fun c s1 e => ?_)
  cases c with
  | true => exact isTrue_and_nil e
  | false => exact e
theorem pw_or1 (ha : PT X a tA) : PW X (.BoolOp .Or [a] pos) tA := by
  intro wh pins s σ H Q I h
  refine isTrue_or (thn (ha pins s σ H Q I h) fun c s1 e => ?_)
  cases c with
  | false => exact isTrue_or_nil e
  | true => exact e
theorem pw_and (ha : PT X a tA) (hb : PW X (.BoolOp .And (b :: rest) pos) tB') : PW X (.BoolOp .And (a :: b :: rest) pos) (tAnd tA tB') := by
  intro wh pins s σ H Q I h
  refine isTrue_and (thn (ha pins s σ H _ I h) fun c s1 ⟨H1, I1, q1⟩ => ?_)
  cases c with
  | true => exact hb wh pins s1 σ H1 Q I1 q1
  | false => exact ⟨H1, I1, q1⟩
theorem pw_or (ha : PT X a tA) (hb : PW X (.BoolOp .Or (b :: rest) pos) tB') : PW X (.BoolOp .Or (a :: b :: rest) pos) (tOr tA tB') := by
  intro wh pins s σ H Q I h
  refine isTrue_or (thn (ha pins s σ H _ I h) fun c s1 ⟨H1, I1, q1⟩ => ?_)
  cases c with
  | true => exact ⟨H1, I1, q1⟩
  | false => exact hb wh pins s1 σ H1 Q I1 q1
theorem pt_not (ha : PT X a tA) : PT X (.UnaryOp .Not a pos) (tNot tA) := by
  intro pins s σ H Q I h
  exact isTrue_not (ha pins s σ H (fun c H1 => Q (!c) H1) I h)
def tAndV (ta tb : TE) : TE := fun σ H Q => ta σ H fun x H1 => ∃ c, x = .bl c ∧ if c = true then tb σ H1 Q else Q (.bl false) H1
def tNotV (ta : TE) : TE := fun σ H Q => ta σ H fun x H1 => ∃ c, x = .bl c ∧ Q (.bl (!c)) H1
theorem pe_one {op} {t : TE} (h : PE X a t) : PE X (.BoolOp op [a] pos) t := fun pins s σ H Q I hw => BoolOp_one (h pins s σ H Q I hw)
theorem pe_and (ha : PE X a ta) (hb : PE X (.BoolOp .And (b :: rest) pos) tb) : PE X (.BoolOp .And (a :: b :: rest) pos) (tAndV ta tb) := by
  intro pins s σ H Q I h
  refine BoolOp_and (thn (ha pins s σ H _ I h) fun v s1 ⟨x, H1, I1, r1, q1⟩ => ?_)
  obtain ⟨c, rfl, q1⟩ := q1
  cases r1
  refine wpAny_truthy_bool ?_
  cases c with
  | true => exact hb pins s1 σ H1 Q I1 q1
  | false => exact ⟨.bl false, H1, I1, rfl, q1⟩
theorem pe_not (ha : PE X a ta) : PE X (.UnaryOp .Not a pos) (tNotV ta) := by
  intro pins s σ H Q I h
  refine UnaryOp_ (thn (ha pins s σ H _ I h) fun v s1 ⟨x, H1, I1, r1, q1⟩ => ?_)
  obtain ⟨c, rfl, q1⟩ := q1
  cases r1
  exact not_of (wpAny_truthy_bool ⟨.bl (!c), H1, I1, rfl, q1⟩)
def tIf (t : TT) (ta tb : TE) : TE := fun σ H Q => t σ H fun c H1 => if c = true then ta σ H1 Q else tb σ H1 Q
theorem pe_ifExp {c : Expr} (hc : PT X c tA) (ha : PE X a ta) (hb : PE X b tb) : PE X (.IfExp c a b pos) (tIf tA ta tb) := by
  intro pins s σ H Q I h
  refine wpAny_IfExp (thn (hc pins s σ H _ I h) fun d s1 ⟨H1, I1, q1⟩ => ?_)
  cases d with
  | true => exact ha pins s1 σ H1 Q I1 q1
  | false => exact hb pins s1 σ H1 Q I1 q1
end
end L2
namespace L2
open PySem PySem.Spec PyProof.Rows
def SqL (K : PySem.W.Frag) (H : Hp) (a : Addr) (xs : List V) : Prop :=
  Rd H a (.lst xs) ∨
    ∃ (o : Obj) (its : Array Value) (n : Nat), K.lookup a = some o ∧ o.cls = .type "list" ∧ o.dict = none ∧ o.data = .seq its n ∧ its.size ≤ sizeLine ∧ Vals xs its.toList
def SqT (K : PySem.W.Frag) (H : Hp) (a : Addr) (xs : List V) : Prop :=
  Rd H a (.tup xs) ∨
    ∃ (o : Obj) (its : Array Value) (n : Nat), K.lookup a = some o ∧ o.cls = .type "tuple" ∧ o.data = .seq its n ∧ its.size ≤ sizeLine ∧ Vals xs its.toList
def absV : Value → Option V
  | .none => some .non
  | .bool b => some (.bl b)
  | .int i _ => some (.int i)
  | .str x _ => some (.str x)
  | .bytes b _ => some (.byt b)
  | .float b _ => some (.flt b)
  | .ref a => some (.ref a)
  | .type n => some (.ty n)
  | _ => none
theorem RelV.abs {x : V} {u : Value} (r : RelV x u) : absV u = some x := by
  cases x with
  | non => cases r; rfl
  | bl _ => cases r; rfl
  | int _ => obtain ⟨t, rfl⟩ := r; rfl
  | str _ => obtain ⟨t, rfl⟩ := r; rfl
  | byt _ => obtain ⟨t, rfl⟩ := r; rfl
  | flt _ => obtain ⟨t, rfl⟩ := r; rfl
  | ref _ => cases r; rfl
  | ty _ => cases r; rfl
theorem RelV.inj {x y : V} {u : Value} (r : RelV x u) (q : RelV y u) : x = y := Option.some.inj (r.abs.symm.trans q.abs)
theorem Vals.inj : ∀ {xs ys : List V} {us : List Value}, Vals xs us → Vals ys us → xs = ys
  | _, _, _, .nil, .nil => rfl
  | _, _, _, .cons r t, .cons r' t' => by rw [r.inj r', Vals.inj t t']
section
variable {X : Cx} {pins : List (Addr × Obj)} {σ : St} {H : Hp} {s : Shared} {a : Addr} {xs ys : List V}
theorem SqL.of {K : PySem.W.Frag} (h : H a = some (.lst xs)) : SqL K H a xs := .inl (.inl h)
theorem SqT.of {K : PySem.W.Frag} (h : H a = some (.tup xs)) : SqT K H a xs := .inl (.inl h)
theorem Inv.list (I : Inv X pins σ H s) (h : SqL X.K H a xs) : ∃ its : List Value, Vals xs its ∧ PlainL s.heap a its.toArray ∧ xs.length ≤ sizeLine := by
  rcases h with h | ⟨o, its, n, hk, hc, hd, hs, hz, r⟩
  · obtain ⟨z, its, n, r, e⟩ := h.ok I.hok
    exact ⟨its, r, ⟨_, n, e, rfl, rfl, rfl⟩, z⟩
  · refine ⟨its.toList, r, ⟨o, n, I.kIn a o hk, hc, hd, by simpa using hs⟩, ?_⟩
    have e := r.length
    simp only [Array.length_toList] at e
    omega
theorem Inv.tuple (I : Inv X pins σ H s) (h : SqT X.K H a xs) : ∃ its : List Value, Vals xs its ∧ IsTup s.heap a its.toArray ∧ xs.length ≤ sizeLine := by
  rcases h with h | ⟨o, its, n, hk, hc, hs, hz, r⟩
  · obtain ⟨z, its, r, p⟩ := h.ok I.hok
    exact ⟨its, r, p, z⟩
  · refine ⟨its.toList, r, ⟨o, I.kIn a o hk, hc, n, by simpa using hs⟩, ?_⟩
    have e := r.length
    simp only [Array.length_toList] at e
    omega
theorem Inv.list_inj (I : Inv X pins σ H s) (h : SqL X.K H a xs) (h' : SqL X.K H a ys) : xs = ys := by
  obtain ⟨its, r, ⟨o, n, e, _, _, d⟩, _⟩ := I.list h
  obtain ⟨its', r', ⟨o', n', e', _, _, d'⟩, _⟩ := I.list h'
  rw [e] at e'; cases e'
  rw [d] at d'
  injection d' with d1 _
  have : its = its' := by simpa using congrArg Array.toList d1
  subst this
  exact r.inj r'
theorem Inv.tuple_inj (I : Inv X pins σ H s) (h : SqT X.K H a xs) (h' : SqT X.K H a ys) : xs = ys := by
  obtain ⟨its, r, ⟨o, e, _, n, d⟩, _⟩ := I.tuple h
  obtain ⟨its', r', ⟨o', e', _, n', d'⟩, _⟩ := I.tuple h'
  rw [e] at e'; cases e'
  rw [d] at d'
  injection d' with d1 _
  have : its = its' := by simpa using congrArg Array.toList d1
  subst this
  exact r.inj r'
end
abbrev Cx.wish (X : Cx) (E : Value → Shared → Prop) : Cx := { X with xe := E }
abbrev Cx.nox (X : Cx) : Cx := X.wish fun _ _ => False
theorem Cx.Ok.wish {X : Cx} (ok : X.Ok) (E : Value → Shared → Prop) : (X.wish E).Ok :=
  ⟨ok.mod, ok.kind, ok.glob, ok.blt, ok.above, ok.inj, ok.has, ok.cab, ok.hd, ok.frames, ok.stk, ok.exf, ok.bs, ok.bsz, ok.noex, ok.exfs, ok.funs, ok.frf⟩
theorem Cx.Ok.unwish {X : Cx} {E : Value → Shared → Prop} (ok : (X.wish E).Ok) : X.Ok :=
  ⟨ok.mod, ok.kind, ok.glob, ok.blt, ok.above, ok.inj, ok.has, ok.cab, ok.hd, ok.frames, ok.stk, ok.exf, ok.bs, ok.bsz, ok.noex, ok.exfs, ok.funs, ok.frf⟩
section
variable {X : Cx} {pins : List (Addr × Obj)} {σ : St} {H : Hp} {s : Shared} {E : Value → Shared → Prop}
theorem Inv.wish (I : Inv X pins σ H s) (E : Value → Shared → Prop) : Inv (X.wish E) pins σ H s := ⟨I.ok.wish E, I.os, I.bare, I.base, I.loc, I.cell, I.free, I.freeC, I.pin, I.hok, I.len⟩
theorem Inv.unwish (I : Inv (X.wish E) pins σ H s) : Inv X pins σ H s := ⟨I.ok.unwish, I.os, I.bare, I.base, I.loc, I.cell, I.free, I.freeC, I.pin, I.hok, I.len⟩
theorem SP.unwish {D : Ends} {f : Flow} {s' : Shared} (h : SP (X.wish E) pins D f s') : SP X pins D f s' := by
  cases f with
  | next => obtain ⟨σ', H', I, q⟩ := h; exact ⟨σ', H', I.unwish, q⟩
  | brk => obtain ⟨σ', H', I, q⟩ := h; exact ⟨σ', H', I.unwish, q⟩
  | cont => obtain ⟨σ', H', I, q⟩ := h; exact ⟨σ', H', I.unwish, q⟩
  | ret u => obtain ⟨v, σ', H', I, r, q⟩ := h; exact ⟨v, σ', H', I.unwish, r, q⟩
theorem PSs.nox {st : List Stmt} {t : TS} (h : PSs X.nox st t) : PSs X st t := fun pins s σ H D I hw =>
  wpAny_mono (h pins s σ H D (I.wish _) hw) (fun _ _ q => q.unwish) fun _ _ z => False.elim z
end
section
variable {X : Cx} {st : Stmt} {rest : List Stmt} {t u : TS} {e : Expr} {te : TE} {pos : Pos}
def tNext : TS := fun D σ H => D.nx σ H
def tSeq (t u : TS) : TS := fun D σ H => t { D with nx := u D } σ H
theorem pss_nil : PSs X [] tNext := fun _ _ σ H _ I h => wpAny_execs_nil ⟨σ, H, I, h⟩
theorem pss_cons (h1 : PS X st t) (h2 : PSs X rest u) : PSs X (st :: rest) (tSeq t u) := by
  intro pins s σ H D I h
  refine wpAny_execs_cons (thn (h1 pins s σ H { D with nx := u D } I h) fun f s1 q => ?_)
  cases f with
  | next =>
    obtain ⟨σ', H', I', q⟩ := q
    exact h2 pins s1 σ' H' D I' q
  | ret v => exact q
  | brk => exact q
  | cont => exact q
theorem pss_one (h1 : PS X st t) : PSs X [st] t := by
  intro pins s σ H D I h
  refine wpAny_execs_cons (thn (h1 pins s σ H D I h) fun f s1 q => ?_)
  cases f with
  | next => exact wpAny_execs_nil q
  | ret v => exact q
  | brk => exact q
  | cont => exact q
theorem Inv.quiet {pins : List (Addr × Obj)} {σ : St} {H : Hp} {s : Shared} (I : Inv X pins σ H s) : interactive X.env = false := by simp [interactive, I.ok.kind]
def tDrop (te : TE) : TS := fun D σ H => te σ H fun _ H1 => D.nx σ H1
theorem ps_expr (he : PE X e te) (hs : swapsWith e none pos.line X.env = pure false := by rfl) : PS X (.Expr e pos) (tDrop te) := by
  intro pins s σ H D I h
  exact wpAny_Expr_any (thn (he pins s σ H _ I h) fun v s1 ⟨x, H1, I1, r1, q1⟩ => ⟨σ, H1, I1, q1⟩) I.quiet hs
def tRet (te : TE) : TS := fun D σ H => te σ H D.rt
theorem ps_ret (he : PE X e te) : PS X (.Return (some e) pos) (tRet te) := by
  intro pins s σ H D I h
  exact wpAny_Return_some (thn (he pins s σ H _ I h) fun v s1 ⟨x, H1, I1, r1, q1⟩ => ⟨x, σ, H1, I1, r1, q1⟩)
def tIfS (c : TT) (t u : TS) : TS := fun D σ H => c σ H fun b H1 => if b = true then t D σ H1 else u D σ H1
theorem ps_if {c : Expr} {a b : List Stmt} {tc : TT} (hc : PT X c tc) (ha : PSs X a t) (hb : PSs X b u) : PS X (.If c a b pos) (tIfS tc t u) := by
  intro pins s σ H D I h
  refine wpAny_If (thn (hc pins s σ H _ I h) fun d s1 ⟨H1, I1, q1⟩ => ?_)
  cases d with
  | true => exact ha pins s1 σ H1 D I1 q1
  | false => exact hb pins s1 σ H1 D I1 q1
end
abbrev TG := V → St → Hp → (St → Hp → Prop) → Prop
abbrev TGs := List V → St → Hp → (St → Hp → Prop) → Prop
def PG (X : Cx) (target : Expr) (t : TG) : Prop :=
  ∀ (pins : List (Addr × Obj)) (s : Shared) (σ : St) (H : Hp) (v : V) (u : Value) (Q : St → Hp → Prop), Inv X pins σ H s → RelV v u → t v σ H Q →
    wpAny (model X.prog X.w) X.A (assign target X.env u) (fun _ s' => ∃ σ' H', Inv X pins σ' H' s' ∧ Q σ' H') X.xe s
def PGs (X : Cx) (ts : List Expr) (t : TGs) : Prop :=
  ∀ (pins : List (Addr × Obj)) (s : Shared) (σ : St) (H : Hp) (vs : List V) (us : List Value) (Q : St → Hp → Prop), Inv X pins σ H s → Vals vs us → t vs σ H Q →
    wpAny (model X.prog X.w) X.A (assignInOrder ((assignEach ts X.env).map (·.2)) us) (fun _ s' => ∃ σ' H', Inv X pins σ' H' s' ∧ Q σ' H') X.xe s
abbrev TSet := V → V → V → Hp → (Hp → Prop) → Prop
abbrev TIp := V → V → Hp → VK → Prop
def PIp (X : Cx) (op : Operator) (t : TIp) : Prop :=
  ∀ (pins : List (Addr × Obj)) (s : Shared) (σ : St) (H : Hp) (x y : V) (v u : Value) (Q : VK), Inv X pins σ H s → RelV x v → RelV y u → t x y H Q →
    wpAny (model X.prog X.w) X.A (inplaceOp op v u) (EP X pins σ Q) X.xe s
section
variable {X : Cx} {pos : Pos}
def gName (i : Nat) : TG := fun v σ H Q => Q (σ.set i (some v)) H
theorem pg_name {i : Nat} {x : Str} (hN : X.N.Nodup) (hi : X.N[i]? = some x) (hx : Loc X.env.scope x) (hf : X.fn x = true ∨ X.env.scope.names.lookup x = some .local := by first | exact .inl rfl | exact .inr rfl | assumption) : PG X (.Name x pos) (gName i) := by
  intro pins s σ H v u Q I r h
  exact wpAny_assign_Name (store_ok I hN hi hx r (fun s' I' => ⟨_, H, I', h⟩) hf)
def gNil : TGs := fun vs σ H Q => vs = [] ∧ Q σ H
def gCons (t : TG) (u : TGs) : TGs := fun vs σ H Q => ∃ v r, vs = v :: r ∧ t v σ H fun σ' H' => u r σ' H' Q
theorem pgs_nil : PGs X [] gNil := by
  intro pins s σ H vs us Q I r h
  obtain ⟨e, h⟩ := h
  subst e
  cases r
  exact assignInOrder_nil ⟨σ, H, I, h⟩
theorem pgs_cons {e : Expr} {es : List Expr} {t : TG} {u : TGs} (h1 : PG X e t) (h2 : PGs X es u)
    (hs : (assignEach (e :: es) X.env).map (·.2) = assign e X.env :: (assignEach es X.env).map (·.2) := by rfl) : PGs X (e :: es) (gCons t u) := by
  intro pins s σ H vs us Q I r h
  obtain ⟨v, vr, e1, h⟩ := h
  subst e1
  cases r with
  | cons r rr =>
    rw [hs]
    refine assignInOrder_cons (thn (h1 pins s σ H _ _ _ I r h) fun _ s1 ⟨σ1, H1, I1, q1⟩ => ?_)
    exact h2 pins s1 σ1 H1 _ _ Q I1 rr q1
def gTup (K : PySem.W.Frag) (n : Nat) (t : TGs) : TG := fun v σ H Q => ∃ a xs, v = .ref a ∧ SqT K H a xs ∧ xs.length = n ∧ t xs σ H Q
theorem pg_tup {es : List Expr} {k : Nat} {t : TGs} {n : Nat} (hc : X.calm = true) (h : PGs X es t)
    (hn : (assignEach es X.env).length = n := by rfl) (hst : (assignEach es X.env).findIdx? (·.1) = none := by rfl) : PG X (.Tuple es k pos) (gTup X.K n t) := by
  intro pins s σ H v u Q I r hw
  obtain ⟨a, xs, e1, hq, hl, hw⟩ := hw
  subst e1
  cases r
  obtain ⟨its, rv, ht, hz⟩ := I.tuple hq
  refine assign_Tuple_tuple (I.ok.hd hc) ht (by simp [hn, ← hl, rv.length]) hst fun h' hx => ?_
  have I1 : Inv X pins σ H { s with heap := h' } := I.kept (t' := s.toks) fun b o e => hx b o (Nat.ne_of_lt (Heap.lt_size e)) e
  exact h pins _ σ H xs _ Q I1 (by simpa using rv) hw
def tAsg (te : TE) (g : TG) : TS := fun D σ H => te σ H fun x H1 => g x σ H1 D.nx
theorem ps_set {i : Nat} {x : Str} {e : Expr} {te : TE} {pos' : Pos} (hN : X.N.Nodup) (hi : X.N[i]? = some x) (hx : Loc X.env.scope x) (he : PE X e te) (hs : swapsWith e (some (.Name x pos')) pos.line X.env = pure false := by rfl) (hf : X.fn x = true ∨ X.env.scope.names.lookup x = some .local := by first | exact .inl rfl | exact .inr rfl | assumption) :
    PS X (.Assign [.Name x pos'] e pos) (tAsg te (gName i)) := by
  intro pins s σ H D I h
  refine wpAny_Assign_Name (thn (he pins s σ H _ I h) fun v s1 ⟨y, H1, I1, r1, q1⟩ => ?_) hs
  exact store_ok I1 hN hi hx r1 (fun s2 I2 => ⟨_, H1, I2, q1⟩) hf
def tAug (i : Nat) (te : TE) (ti : TIp) : TS := fun D σ H => ∃ x, σ[i]? = some (some x) ∧ te σ H fun y H1 => ti x y H1 fun z H2 => D.nx (σ.set i (some z)) H2
theorem ps_aug {i : Nat} {x : Str} {e : Expr} {te : TE} {op : Operator} {ti : TIp} {pos' : Pos} (hN : X.N.Nodup) (hi : X.N[i]? = some x) (hx : Loc X.env.scope x) (he : PE X e te) (ho : PIp X op ti) (hf : X.fn x = true ∨ X.env.scope.names.lookup x = some .local := by first | exact .inl rfl | exact .inr rfl | assumption) :
    PS X (.AugAssign (.Name x pos') op e pos) (tAug i te ti) := by
  intro pins s σ H D I h
  obtain ⟨v, e1, h⟩ := h
  obtain ⟨m, hn, hl⟩ := I.loc
  have vis : Vis X.env.scope x := by rcases hx with k | k; exact .inl k; exact .inr (.inl k)
  obtain ⟨u, r, l⟩ := hl i x v hi e1 vis
  refine wpAny_AugAssign_Name ?_
  have go : wpAny (model X.prog X.w) X.A (eval e X.env) (fun w s₂ => wpAny (model X.prog X.w) X.A (inplaceOp op u w) (fun r s₃ => wpAny (model X.prog X.w) X.A (storeName X.env x r) (fun _ => SP X pins D .next) X.xe s₃) X.xe s₂) X.xe s := by
    refine thn (he pins s σ H _ I h) fun w s1 ⟨y, H1, I1, r1, q1⟩ => ?_
    refine thn (ho pins s1 σ H1 v y u w _ I1 r r1 q1) fun z s2 ⟨zv, H2, I2, r2, q2⟩ => ?_
    exact store_ok I2 hN hi hx r2 (fun s3 I3 => ⟨_, H2, I3, q2⟩) hf
  rcases l with ⟨hk, hm⟩ | ⟨hk, c, hc, hcell⟩
  · exact wpAny_loadName_local I.ok.kind hk hn hm go
  · rcases hk with hk | hk
    · exact wpAny_loadName_cell I.ok.kind hk hc hcell go
    · rcases hx with k | k
      · have : X.env.scope.names.lookup x = some .free := hk
        rw [k] at this; cases this
      · have : X.env.scope.names.lookup x = some .free := hk
        rw [k] at this; cases this
def ipI (f : Int → Int → Int) : TIp := fun x y H Q => ∃ i j, x = .int i ∧ y = .int j ∧ Q (.int (f i j)) H
theorem ip_add : PIp X .Add (ipI fun i j => i + j) := by
  intro pins s σ H x y v u Q I r1 r2 h
  obtain ⟨i, j, e1, e2, q⟩ := h
  subst e1; subst e2
  obtain ⟨t, rfl⟩ := r1
  obtain ⟨t', rfl⟩ := r2
  exact iadd_int ⟨.int _, H, I.tok _, ⟨_, rfl⟩, q⟩
end
section
variable {X : Cx} {pos : Pos}
def tWhile (c : TT) (tb : TS) : TS := fun D σ H => ∃ W : Nat → St → Hp → Prop, (∃ m, W m σ H) ∧ ∀ m σ H, W m σ H →
  c σ H fun b H1 => if b = true then ∃ N : St → Hp → Prop, (∀ σ' H', N σ' H' → ∃ m', m' < m ∧ W m' σ' H') ∧ tb { D with nx := N, ct := N, bk := D.nx } σ H1 else D.nx σ H1
theorem ps_while {c : Expr} {body : List Stmt} {tc : TT} {tb : TS} (hp : PassesOwn (model X.prog X.w) X.A X.env X.xe) (hc : PT X c tc) (hb : PSs X body tb) : PS X (.While c body [] pos) (tWhile tc tb) := by
  intro pins s σ H D I h
  obtain ⟨W, ⟨m0, w0⟩, turn⟩ := h
  refine wpAny_While (codeAny_whileLoop (fun n s' => ∃ σ' H', Inv X pins σ' H' s' ∧ W n σ' H') ?_ m0 ⟨σ, H, I, w0⟩)
  rintro n s1 ⟨σ1, H1, I1, w1⟩
  refine wpAny_passesOwn hp (thn (hc pins s1 σ1 H1 _ I1 (turn n σ1 H1 w1)) fun b s2 ⟨H2, I2, q2⟩ => ?_)
  cases b with
  | true =>
    obtain ⟨N, hN, q2⟩ := q2
    rw [if_pos rfl]
    refine wpAny_passesOwn hp (thn (hb pins s2 σ1 H2 _ I2 q2) fun f s3 q3 => ?_)
    cases f with
    | next =>
      obtain ⟨σ3, H3, I3, n3⟩ := q3
      obtain ⟨m', hm, w3⟩ := hN σ3 H3 n3
      exact ⟨m', hm, σ3, H3, I3, w3⟩
    | cont =>
      obtain ⟨σ3, H3, I3, n3⟩ := q3
      obtain ⟨m', hm, w3⟩ := hN σ3 H3 n3
      exact ⟨m', hm, σ3, H3, I3, w3⟩
    | brk => exact q3
    | ret v => exact q3
  | false =>
    rw [if_neg Bool.false_ne_true]
    exact wpAny_execs_nil ⟨σ1, H2, I2, q2⟩
end
structure It where
  go : Nat → Hp → Prop
  yld : Nat → Hp → V → Hp → Prop
  stop : Nat → Hp → Prop
def FpOk (X : Cx) (pins : List (Addr × Obj)) (H : Hp) (b : Addr) : Prop :=
  H b = none ∧ b ≠ X.env.locals ∧ b ∉ X.fs ∧ (b ∈ X.ex ∨ X.s₀.heap.objs.size ≤ b) ∧ (∀ x c, X.env.cells.lookup x = some c → c ≠ b) ∧ ∀ p ∈ X.pn ++ pins, p.1 ≠ b
theorem Inv.fpOk {X : Cx} {pins : List (Addr × Obj)} {σ : St} {H H' : Hp} {s : Shared} {b : Addr} (I : Inv X pins σ H s) (hb : s.heap.objs.size ≤ b) (hn : H' b = none) : FpOk X pins H' b := by
  refine ⟨hn, Nat.ne_of_gt (Nat.lt_of_lt_of_le I.lt hb), I.nofs hb, .inr (Nat.le_trans I.sz hb), fun x c e z => ?_, fun p hp z => ?_⟩
  · obtain ⟨v, q⟩ := I.cell x c e
    exact absurd (Nat.lt_of_lt_of_le q.lt (by rw [z]; exact hb)) (Nat.lt_irrefl _)
  · exact absurd (Nat.lt_of_lt_of_le (Heap.lt_size (I.pin p hp).1) (by rw [z]; exact hb)) (Nat.lt_irrefl _)
structure Turn (P : Program) (w : World) (K : PySem.W.Frag) (tg : Expr) (J : It) (fp : List Addr) (it : Addr) (tn : Nat → Heap → Prop) : Prop where
  mem : it ∈ fp
  obj : ∀ i h, tn i h → ∀ b ∈ fp, ∃ o, h.get? b = some o ∧ ∀ v, o.data ≠ .cell v
  keep : ∀ i h h', tn i h → (∀ b ∈ fp, ∀ o, h.get? b = some o → h'.get? b = some o) → tn i h'
  item : ∀ (X : Cx), X.prog = P → X.w = w → X.K = K → X.calm = true → ∀ (i : Nat) (pins : List (Addr × Obj)) (s : Shared) (σ : St) (H : Hp) (E : Value → Shared → Prop), Inv X pins σ H s → (∀ b ∈ fp, FpOk X pins H b) → tn i s.heap → J.go i H →
    wpAny (model P w) X.A (pyNext (.ref it)) (fun r s1 => ∃ u, r = some u ∧
      wpAny (model P w) X.A (letOwnedTupleGo tg (.ref it) u) (fun _ s2 => ∃ x H', Inv X pins σ H' s2 ∧ RelV x u ∧ J.yld i H x H' ∧ tn (i + 1) s2.heap ∧ ∀ b ∈ fp, H' b = none) E s1) E s
  done : ∀ (X : Cx), X.prog = P → X.w = w → X.K = K → X.calm = true → ∀ (i : Nat) (pins : List (Addr × Obj)) (s : Shared) (σ : St) (H : Hp) (E : Value → Shared → Prop), Inv X pins σ H s → (∀ b ∈ fp, FpOk X pins H b) → tn i s.heap → J.stop i H →
    wpAny (model P w) X.A (pyNext (.ref it)) (fun r s1 => r = none ∧ Inv X pins σ H s1) E s
  self : ∀ (A : Around) (i : Nat) (s : Shared) (Q : Value → Shared → Prop) (E : Value → Shared → Prop), tn i s.heap → Q (.ref it) s → wpAny (model P w) A (pyIter (.ref it)) Q E s
abbrev TI := St → Hp → (It → Hp → Prop) → Prop
def PIE (X : Cx) (pins : List (Addr × Obj)) (σ : St) (tg : Expr) (R : It → Hp → Prop) (itv : Value) (s2 : Shared) : Prop :=
  ∃ (it : Addr) (fp : List Addr) (tn : Nat → Heap → Prop) (J : It) (H' : Hp), itv = .ref it ∧ Inv X pins σ H' s2 ∧ Turn X.prog X.w X.K tg J fp it tn ∧ tn 0 s2.heap ∧ (∀ b ∈ fp, FpOk X pins H' b) ∧ R J H'
def PI (X : Cx) (tg iter : Expr) (wi : TI) : Prop :=
  ∀ (pins : List (Addr × Obj)) (s : Shared) (σ : St) (H : Hp) (R : It → Hp → Prop), Inv X pins σ H s → wi σ H R →
    wpAny (model X.prog X.w) X.A (eval iter X.env) (fun v s1 => wpAny (model X.prog X.w) X.A (pyIter v) (PIE X pins σ tg R) X.xe s1) X.xe s
theorem go_of {M : Model} {A : Around} {E : Value → Shared → Prop} {s : Shared} {tg : Expr} {it : Addr} {u : Value} {o : Obj} {n : String} {vs : Array Value} {Q : Unit → Shared → Prop} (ho : s.heap.get? it = some o) (hc : o.cls = .type n) (hd : o.data = .fields vs)
    (hn : ["enumerate", "zip", "dict_itemiterator", "dict_reverseitemiterator", "odict_iterator", "itertools.zip_longest", "itertools.pairwise"].contains n = false) (hQ : Q () s) : wpAny M A (letOwnedTupleGo tg (.ref it) u) Q E s := by
  unfold letOwnedTupleGo
  cases tg <;> first
    | exact wpAny_pure hQ
    | (cases u <;> first
        | exact wpAny_pure hQ
        | (refine wpAny_bind (wpAny_load ho ?_)
           rw [hc, hd]
           show wpAny M A (if (["enumerate", "zip", "dict_itemiterator", "dict_reverseitemiterator", "odict_iterator", "itertools.zip_longest", "itertools.pairwise"].contains n && vs[0]? == some (rawInt _)) = true then _ else _) Q E s
           rw [if_neg (by intro h; rw [hn, Bool.false_and] at h; cases h)]
           exact wpAny_pure hQ))
def Itl (K : PySem.W.Frag) (a : Addr) : It :=
  ⟨fun i H => ∃ xs x, SqL K H a xs ∧ xs[i]? = some x, fun i H x H' => H' = H ∧ ∀ xs, SqL K H a xs → xs[i]? = some x, fun i H => ∃ xs, SqL K H a xs ∧ xs.length ≤ i⟩
def Itt (K : PySem.W.Frag) (a : Addr) : It :=
  ⟨fun i H => ∃ xs x, SqT K H a xs ∧ xs[i]? = some x, fun i H x H' => H' = H ∧ ∀ xs, SqT K H a xs → xs[i]? = some x, fun i H => ∃ xs, SqT K H a xs ∧ xs.length ≤ i⟩
def Itr (lo : Int) (n : Nat) : It := ⟨fun i _ => i < n, fun i H x H' => H' = H ∧ x = .int (lo + i), fun i _ => n ≤ i⟩
theorem turn_list {P : Program} {w : World} {K : PySem.W.Frag} {tg : Expr} (a it : Addr) : Turn P w K tg (Itl K a) [it] it (fun i h => h.IsListIter it a i) where
  mem := by simp
  obj := fun i h st b hb => by
    have e : b = it := by simpa using hb
    subst e
    obtain ⟨o, e, c, d⟩ := st
    exact ⟨o, e, fun v z => by rw [d] at z; cases z⟩
  keep := fun i h h' st k => st.at fun o e => k it (by simp) o e
  item := by
    intro X hP hw hK hc i pins s σ H E I hf st hg
    subst hP hw hK
    obtain ⟨xs, x, hq, hx⟩ := hg
    obtain ⟨its, rv, p, hz⟩ := I.list hq
    obtain ⟨u, hu, ru⟩ := rv.get hx
    obtain ⟨f0, f1, f2, f3, f4, f5⟩ := hf it (by simp)
    refine wpAny_pyNext_list_item st p.isList (x := u) (by simpa using hu) fun h' st' sb => ?_
    have I1 : Inv X pins σ H { s with heap := h' } := I.turned (t' := s.toks) (fun b o hb e => (sb.2 b hb).trans e) f0 f1 f3 f4 f5
    obtain ⟨o, e, c, d⟩ := id st'
    exact ⟨u, rfl, go_of (s := { s with heap := h' }) e c d (by decide) ⟨x, H, I1, ru, ⟨rfl, fun ys hy => by rw [I.list_inj hy hq]; exact hx⟩, st', fun b hb => (hf b hb).1⟩⟩
  done := by
    intro X hP hw hK hc i pins s σ H E I hf st hg
    subst hP hw hK
    obtain ⟨xs, hq, hx⟩ := hg
    obtain ⟨its, rv, p, hz⟩ := I.list hq
    obtain ⟨f0, f1, f2, f3, f4, f5⟩ := hf it (by simp)
    have hl := rv.length
    exact wpAny_pyNext_list_end (I.ok.hd hc) st p.isList (by simp; omega) fun h' eb => ⟨rfl, I.turned (t' := s.toks) (fun b o hb e => eb b o hb e) f0 f1 f3 f4 f5⟩
  self := fun _ _ _ _ _ st h => wpAny_pyIter_listiter st h
theorem turn_tuple {P : Program} {w : World} {K : PySem.W.Frag} {tg : Expr} (a it : Addr) : Turn P w K tg (Itt K a) [it] it (fun i h => h.IsTupleIter it a i) where
  mem := by simp
  obj := fun i h st b hb => by
    have e : b = it := by simpa using hb
    subst e
    obtain ⟨o, e, c, d⟩ := st
    exact ⟨o, e, fun v z => by rw [d] at z; cases z⟩
  keep := fun i h h' st k => st.at fun o e => k it (by simp) o e
  item := by
    intro X hP hw hK hc i pins s σ H E I hf st hg
    subst hP hw hK
    obtain ⟨xs, x, hq, hx⟩ := hg
    obtain ⟨its, rv, p, hz⟩ := I.tuple hq
    obtain ⟨u, hu, ru⟩ := rv.get hx
    obtain ⟨f0, f1, f2, f3, f4, f5⟩ := hf it (by simp)
    refine wpAny_pyNext_tuple_item st (show s.heap.IsTuple a its.toArray from p) (x := u) (by simpa using hu) fun h' st' sb => ?_
    have I1 : Inv X pins σ H { s with heap := h' } := I.turned (t' := s.toks) (fun b o hb e => (sb.2 b hb).trans e) f0 f1 f3 f4 f5
    obtain ⟨o, e, c, d⟩ := id st'
    exact ⟨u, rfl, go_of (s := { s with heap := h' }) e c d (by decide) ⟨x, H, I1, ru, ⟨rfl, fun ys hy => by rw [I.tuple_inj hy hq]; exact hx⟩, st', fun b hb => (hf b hb).1⟩⟩
  done := by
    intro X hP hw hK hc i pins s σ H E I hf st hg
    subst hP hw hK
    obtain ⟨xs, hq, hx⟩ := hg
    obtain ⟨its, rv, p, hz⟩ := I.tuple hq
    obtain ⟨f0, f1, f2, f3, f4, f5⟩ := hf it (by simp)
    have hl := rv.length
    exact wpAny_pyNext_tuple_end (I.ok.hd hc) st (show s.heap.IsTuple a its.toArray from p) (by simp; omega) fun h' eb => ⟨rfl, I.turned (t' := s.toks) (fun b o hb e => eb b o hb e) f0 f1 f3 f4 f5⟩
  self := fun _ _ _ _ _ st h => wpAny_pyIter_tupleiter st h
theorem turn_range {P : Program} {w : World} {K : PySem.W.Frag} {tg : Expr} (it : Addr) (lo : Int) (n : Nat) : Turn P w K tg (Itr lo n) [it] it (fun i h => IsRangeIter h it (lo + (i : Nat) * 1) ((n : Int) - (i : Nat)) 1) where
  mem := by simp
  obj := fun i h st b hb => by
    have e : b = it := by simpa using hb
    subst e
    exact ⟨_, st, fun v z => by
      have z' : Data.fields _ = Data.cell v := z
      cases z'⟩
  keep := fun i h h' st k => k it (by simp) _ st
  item := by
    intro X hP hw hK hc i pins s σ H E I hf st hg
    subst hP hw hK
    obtain ⟨f0, f1, f2, f3, f4, f5⟩ := hf it (by simp)
    have W := Walks.range (prog := X.prog) (w := X.w) (I.ok.hd hc) it lo 1 n
    refine W.item i s _ _ hg st fun v h' tk hv st' kk => ?_
    obtain ⟨t, rfl⟩ := hv
    have I1 : Inv X pins σ H { s with heap := h', toks := tk } := I.turned (fun b o hb e => kk b o (by simpa using hb) e) f0 f1 f3 f4 f5
    refine ⟨_, rfl, go_of (s := { s with heap := h', toks := tk }) (n := "range_iterator") st' rfl rfl (by decide) ⟨.int (lo + i), H, I1, ⟨t, ?_⟩, ⟨rfl, rfl⟩, st', fun b hb => (hf b hb).1⟩⟩
    rw [Int.mul_one]
  done := by
    intro X hP hw hK hc i pins s σ H E I hf st hg
    subst hP hw hK
    obtain ⟨f0, f1, f2, f3, f4, f5⟩ := hf it (by simp)
    exact wpAny_pyNext_range_end (I.ok.hd hc) st (by have : n ≤ i := hg; omega) fun h' eb => ⟨rfl, I.turned (t' := s.toks) (fun b o hb e => eb b o hb e) f0 f1 f3 f4 f5⟩
  self := fun _ _ _ _ _ st h => wpAny_pyIter_rangeiter st h
end L2
namespace L2
open PySem PySem.Spec PyProof.Rows
section
variable {X : Cx} {tg : Expr}
def iList (K : PySem.W.Frag) (tl : TE) : TI := fun σ H R => tl σ H fun x H1 => ∃ a, x = .ref a ∧ (∃ xs, SqL K H1 a xs) ∧ R (Itl K a) H1
def iTup (K : PySem.W.Frag) (tl : TE) : TI := fun σ H R => tl σ H fun x H1 => ∃ a, x = .ref a ∧ (∃ xs, SqT K H1 a xs) ∧ R (Itt K a) H1
theorem pi_list {l : Expr} {tl : TE} (hl : PE X l tl) : PI X tg l (iList X.K tl) := by
  intro pins s σ H R I h
  refine thn (hl pins s σ H _ I h) fun v s1 ⟨x, H1, I1, r1, q1⟩ => ?_
  obtain ⟨a, e, ⟨xs, hq⟩, q⟩ := q1
  subst e
  cases r1
  obtain ⟨its, rv, p, hz⟩ := I1.list hq
  refine wpAny_pyIter_list p.isList ?_
  refine ⟨s1.heap.objs.size, [s1.heap.objs.size], _, _, H1, rfl, I1.kept (t' := s1.toks) fun b o e => Heap.get?_push_of_some _ e, turn_list a _, ⟨_, Heap.get?_push_size _ rfl, rfl, rfl⟩, fun b hb => ?_, q⟩
  have e : b = s1.heap.objs.size := by simpa using hb
  subst e
  exact I1.fpOk (Nat.le_refl _) (I1.hok.fresh (Nat.le_refl _))
theorem pi_tup {l : Expr} {tl : TE} (hl : PE X l tl) : PI X tg l (iTup X.K tl) := by
  intro pins s σ H R I h
  refine thn (hl pins s σ H _ I h) fun v s1 ⟨x, H1, I1, r1, q1⟩ => ?_
  obtain ⟨a, e, ⟨xs, hq⟩, q⟩ := q1
  subst e
  cases r1
  obtain ⟨its, rv, p, hz⟩ := I1.tuple hq
  refine wpAny_pyIter_tuple (show s1.heap.IsTuple a its.toArray from p) ?_
  refine ⟨s1.heap.objs.size, [s1.heap.objs.size], _, _, H1, rfl, I1.kept (t' := s1.toks) fun b o e => Heap.get?_push_of_some _ e, turn_tuple a _, ⟨_, Heap.get?_push_size _ rfl, rfl, rfl⟩, fun b hb => ?_, q⟩
  have e : b = s1.heap.objs.size := by simpa using hb
  subst e
  exact I1.fpOk (Nat.le_refl _) (I1.hok.fresh (Nat.le_refl _))
theorem range_it {pins : List (Addr × Obj)} {σ : St} {H : Hp} {s : Shared} {R : It → Hp → Prop} {E : Value → Shared → Prop} {lo hi : Int} {t u v : Tok} {tk : Nat} (I : Inv X pins σ H s) (h1 : -(2 ^ 62) ≤ lo) (h2 : lo < 2 ^ 62) (h3 : -(2 ^ 62) ≤ hi) (h4 : hi < 2 ^ 62)
    (q : R (Itr lo (hi - lo).toNat) H) : wpAny (model X.prog X.w) X.A (pyIter (.ref s.heap.objs.size)) (PIE X pins σ tg R) E { s with heap := s.heap.push { cls := .type "range", data := .fields #[.int lo t, .int hi u, .int 1 v] }, toks := tk } := by
  refine wpAny_pyIter_range (IsRange.new ..) (small_one h1 h2 h3 h4) ?_
  have I1 : Inv X pins σ H { s with heap := s.heap.push { cls := .type "range", data := .fields #[.int lo t, .int hi u, .int 1 v] }, toks := tk } := I.kept fun b o e => Heap.get?_push_of_some _ e
  refine ⟨(s.heap.push { cls := .type "range", data := .fields #[.int lo t, .int hi u, .int 1 v] }).objs.size, [(s.heap.push { cls := .type "range", data := .fields #[.int lo t, .int hi u, .int 1 v] }).objs.size], _, _, H, rfl,
    I1.kept (t' := tk) fun b o e => Heap.get?_push_of_some _ e, turn_range _ lo (hi - lo).toNat, ?_, fun b hb => ?_, q⟩
  · have e1 : lo + ((0 : Nat) : Int) * 1 = lo := by simp
    have e2 : (((hi - lo).toNat : Nat) : Int) - ((0 : Nat) : Int) = Builtin.Range.rangeSize lo hi 1 := by rw [rangeSize_one]; split <;> omega
    show IsRangeIter _ _ (lo + ((0 : Nat) : Int) * 1) ((((hi - lo).toNat : Nat) : Int) - ((0 : Nat) : Int)) 1
    rw [e1, e2]
    exact Heap.get?_push_size _ rfl
  · have e : b = (s.heap.push { cls := .type "range", data := .fields #[.int lo t, .int hi u, .int 1 v] }).objs.size := by simpa using hb
    subst e
    exact I1.fpOk (Nat.le_refl _) (I1.hok.fresh (Nat.le_refl _))
def iRng1 (ta : TA) : TI := fun σ H R => ta σ H fun vs H1 => ∃ j : Int, vs = [.int j] ∧ -(2 ^ 62) ≤ j ∧ j < 2 ^ 62 ∧ R (Itr 0 j.toNat) H1
def iRng2 (ta : TA) : TI := fun σ H R => ta σ H fun vs H1 => ∃ i j : Int, vs = [.int i, .int j] ∧ (-(2 ^ 62) ≤ i ∧ i < 2 ^ 62 ∧ -(2 ^ 62) ≤ j ∧ j < 2 ^ 62) ∧ R (Itr i (j - i).toNat) H1
theorem pi_range1 {a : Expr} {ta : TA} {p pos : Pos} (hg : Gl X "range") (hm : X.mg "range" = none) (ha : PA X [a] ta) (hs : starEach [a] X.env = [(false, eval a X.env)] := by rfl) : PI X tg (.Call (.Name "range" p) [a] [] pos) (iRng1 ta) := by
  intro pins s σ H R I h
  refine Call_ (ld_blt I hg hm boot_range (PyProof.Rows.callWith_type1 (thn (ha pos pins s σ H _ I h) fun us s1 ⟨vs, H1, I1, r1, q1⟩ => ?_) hs rfl))
  obtain ⟨j, e, q1, q2, q⟩ := q1
  subst e
  cases r1 with
  | cons r rr =>
    cases rr
    obtain ⟨t, rfl⟩ := r
    exact call_range_1 (range_it I1 (by omega) (by omega) q1 q2 (by simpa using q))
theorem pi_range2 {a b : Expr} {ta : TA} {p pos : Pos} (hg : Gl X "range") (hm : X.mg "range" = none) (ha : PA X [a, b] ta) (hs : starEach [a, b] X.env = [(false, eval a X.env), (false, eval b X.env)] := by rfl) (hs2 : starEach [b] X.env = [(false, eval b X.env)] := by rfl) :
    PI X tg (.Call (.Name "range" p) [a, b] [] pos) (iRng2 ta) := by
  intro pins s σ H R I h
  refine Call_ (ld_blt I hg hm boot_range (PyProof.Rows.callWith_type1 (thn (ha pos pins s σ H _ I h) fun us s1 ⟨vs, H1, I1, r1, q1⟩ => ?_) (by rw [hs, hs2]) (by rw [hs2]; rfl)))
  obtain ⟨i, j, e, ⟨q1, q2, q3, q4⟩, q⟩ := q1
  subst e
  cases r1 with
  | cons r rr =>
    cases rr with
    | cons r' rr =>
      cases rr
      obtain ⟨t, rfl⟩ := r
      obtain ⟨t', rfl⟩ := r'
      exact call_range_2 (range_it I1 q1 q2 q3 q4 q)
def tFor (wi : TI) (g : TG) (tb : TS) : TS := fun D σ H => wi σ H fun J H1 => ∃ W : Nat → Nat → St → Hp → Prop, (∃ m, W 0 m σ H1) ∧ ∀ i m σ H, W i m σ H →
  (J.stop i H ∧ D.nx σ H) ∨ (J.go i H ∧ ∃ N : St → Hp → Prop, (∀ σ' H', N σ' H' → ∃ m', m' < m ∧ W (i + 1) m' σ' H') ∧ ∀ x H', J.yld i H x H' → g x σ H' fun σ2 H2 => tb { D with nx := N, ct := N, bk := D.nx } σ2 H2)
def pinsAt (fp : List Addr) (h : Heap) : List (Addr × Obj) := fp.filterMap fun b => (h.get? b).map fun o => (b, o)
theorem mem_pinsAt {fp : List Addr} {h : Heap} {b : Addr} {o : Obj} (hb : b ∈ fp) (e : h.get? b = some o) : (b, o) ∈ pinsAt fp h := List.mem_filterMap.mpr ⟨b, hb, by rw [e]; rfl⟩
theorem of_pinsAt {fp : List Addr} {h : Heap} {p : Addr × Obj} (hp : p ∈ pinsAt fp h) : p.1 ∈ fp ∧ h.get? p.1 = some p.2 := by
  obtain ⟨b, hb, e⟩ := List.mem_filterMap.mp hp
  cases q : h.get? b with
  | none => rw [q] at e; cases e
  | some o =>
    rw [q] at e
    have e' : (b, o) = p := Option.some.inj e
    subst e'
    exact ⟨hb, q⟩
theorem Inv.pinned {pins : List (Addr × Obj)} {σ : St} {H : Hp} {s : Shared} {fp : List Addr} (I : Inv X pins σ H s) (hf : ∀ b ∈ fp, FpOk X pins H b) (ho : ∀ b ∈ fp, ∃ o, s.heap.get? b = some o ∧ ∀ v, o.data ≠ .cell v) : Inv X (pins ++ pinsAt fp s.heap) σ H s :=
  I.pins_of fun p hp => (List.mem_append.mp hp).elim (fun z => I.pin p (List.mem_append_right _ z)) fun z => by
    obtain ⟨hb, e⟩ := of_pinsAt z
    obtain ⟨f0, f1, f2, _⟩ := hf p.1 hb
    obtain ⟨o, e', d⟩ := ho p.1 hb
    rw [e] at e'; cases e'
    exact ⟨e, f0, f1, f2, d⟩
theorem Inv.unpinned {pins pl : List (Addr × Obj)} {σ : St} {H : Hp} {s : Shared} (I : Inv X (pins ++ pl) σ H s) : Inv X pins σ H s := I.pins_of fun p hp => I.pin p (List.mem_append_right _ (List.mem_append_left _ hp))
theorem ps_for {iter : Expr} {body : List Stmt} {wi : TI} {g : TG} {tb : TS} {pos : Pos} (hp : PassesOwn (model X.prog X.w) X.A X.env X.xe) (hc : X.calm = true) (hi : PI X tg iter wi) (hg : PG X tg g) (hb : PSs X body tb)
    (hs : ∀ x, foldedSetIterable iter X.env x = pure x := by intro _; rfl) : PS X (.For tg iter body [] pos) (tFor wi g tb) := by
  intro pins s σ H D I h
  refine wpAny_For (thn (hi pins s σ H _ I h) fun v s1 h1 => thn h1 fun itv s2 h2 => ?_) hs
  obtain ⟨it, fp, tn, J, H2, e, I2, T, st2, f2, W, ⟨m0, w0⟩, turn⟩ := h2
  subst e
  have stat : ∀ {H' : Hp}, (∀ b ∈ fp, H' b = none) → ∀ b ∈ fp, FpOk X pins H' b := fun hn b hb => ⟨hn b hb, (f2 b hb).2⟩
  refine codeAny_forLoop_any (fun n s' => ∃ i σ' H', Inv X pins σ' H' s' ∧ tn i s'.heap ∧ (∀ b ∈ fp, H' b = none) ∧ W i n σ' H') ?_ m0 ⟨0, σ, H2, I2, st2, fun b hb => (f2 b hb).1, w0⟩
  rintro n s3 ⟨i, σ3, H3, I3, st3, fr3, w3⟩
  rcases turn i n σ3 H3 w3 with ⟨stop, qn⟩ | ⟨go, N, hN, step⟩
  · refine wpAny_passesOwn hp (thn (T.done X rfl rfl rfl hc i pins s3 σ3 H3 X.xe I3 (stat fr3) st3 stop) fun r s4 ⟨hr, I4⟩ => ?_)
    subst hr
    exact wpAny_execs_nil ⟨σ3, H3, I4, qn⟩
  · refine wpAny_passesOwn hp (thn (T.item X rfl rfl rfl hc i pins s3 σ3 H3 X.xe I3 (stat fr3) st3 go) fun r s4 ⟨u, hr, h4⟩ => ?_)
    subst hr
    refine wpAny_passesOwn hp (thn h4 fun _ s5 ⟨x, H5, I5, r5, y5, st5, fr5⟩ => ?_)
    have I5' := I5.pinned (stat fr5) (T.obj _ _ st5)
    refine wpAny_passesOwn hp (thn (hg _ s5 σ3 H5 x u _ I5' r5 (step x H5 y5)) fun _ s6 ⟨σ6, H6, I6, q6⟩ => ?_)
    refine wpAny_passesOwn hp (thn (hb _ s6 σ6 H6 _ I6 q6) fun f s7 q7 => ?_)
    have again : ∀ {σ7 : St} {H7 : Hp}, Inv X (pins ++ pinsAt fp s5.heap) σ7 H7 s7 → N σ7 H7 → ∃ m, m < n ∧ ∃ i σ' H', Inv X pins σ' H' s7 ∧ tn i s7.heap ∧ (∀ b ∈ fp, H' b = none) ∧ W i m σ' H' := fun {σ7 H7} I7 n7 => by
      obtain ⟨m', hm, w7⟩ := hN σ7 H7 n7
      refine ⟨m', hm, i + 1, σ7, H7, I7.unpinned, T.keep _ _ _ st5 fun b hb o e => (I7.pin (b, o) (List.mem_append_right _ (List.mem_append_right _ (mem_pinsAt hb e)))).1, fun b hb => ?_, w7⟩
      obtain ⟨o, e, d⟩ := T.obj _ _ st5 b hb
      exact (I7.pin (b, o) (List.mem_append_right _ (List.mem_append_right _ (mem_pinsAt hb e)))).2.1
    cases f with
    | next => obtain ⟨σ7, H7, I7, n7⟩ := q7; exact again I7 n7
    | cont => obtain ⟨σ7, H7, I7, n7⟩ := q7; exact again I7 n7
    | brk => obtain ⟨σ7, H7, I7, q7⟩ := q7; exact ⟨σ7, H7, I7.unpinned, q7⟩
    | ret v => obtain ⟨x7, σ7, H7, I7, r7, q7⟩ := q7; exact ⟨x7, σ7, H7, I7.unpinned, r7, q7⟩
end
theorem for_list {K : PySem.W.Frag} {a : Addr} {xs : List V} {g : TG} {tb : TS} {D : Ends} {σ : St} {H : Hp} (Pv : Nat → St → Hp → Prop) (h0 : Pv 0 σ H) (hl : ∀ i σ H, i ≤ xs.length → Pv i σ H → SqL K H a xs)
    (hs : ∀ i x σ H, xs[i]? = some x → Pv i σ H → g x σ H fun σ2 H2 => tb { D with nx := Pv (i + 1), ct := Pv (i + 1), bk := D.nx } σ2 H2) (hd : ∀ σ H, Pv xs.length σ H → D.nx σ H) :
    ∃ W : Nat → Nat → St → Hp → Prop, (∃ m, W 0 m σ H) ∧ ∀ i m σ H, W i m σ H →
      ((Itl K a).stop i H ∧ D.nx σ H) ∨ ((Itl K a).go i H ∧ ∃ N : St → Hp → Prop, (∀ σ' H', N σ' H' → ∃ m', m' < m ∧ W (i + 1) m' σ' H') ∧ ∀ x H', (Itl K a).yld i H x H' → g x σ H' fun σ2 H2 => tb { D with nx := N, ct := N, bk := D.nx } σ2 H2) := by
  refine ⟨fun i m σ H => m = xs.length - i ∧ i ≤ xs.length ∧ Pv i σ H, ⟨xs.length, by simp, Nat.zero_le _, h0⟩, ?_⟩
  rintro i m σ H ⟨rfl, hi, p⟩
  have q := hl i σ H hi p
  by_cases hlt : i < xs.length
  · refine .inr ⟨⟨xs, xs[i], q, by simp [hlt]⟩, Pv (i + 1), fun σ' H' p' => ⟨xs.length - (i + 1), by omega, rfl, hlt, p'⟩, fun x H' y => ?_⟩
    obtain ⟨e, y⟩ := y
    subst e
    exact hs i x σ _ (y xs q) p
  · have e : i = xs.length := by omega
    subst e
    exact .inl ⟨⟨xs, q, Nat.le_refl _⟩, hd σ H p⟩
theorem for_tup {K : PySem.W.Frag} {a : Addr} {xs : List V} {g : TG} {tb : TS} {D : Ends} {σ : St} {H : Hp} (Pv : Nat → St → Hp → Prop) (h0 : Pv 0 σ H) (hl : ∀ i σ H, i ≤ xs.length → Pv i σ H → SqT K H a xs)
    (hs : ∀ i x σ H, xs[i]? = some x → Pv i σ H → g x σ H fun σ2 H2 => tb { D with nx := Pv (i + 1), ct := Pv (i + 1), bk := D.nx } σ2 H2) (hd : ∀ σ H, Pv xs.length σ H → D.nx σ H) :
    ∃ W : Nat → Nat → St → Hp → Prop, (∃ m, W 0 m σ H) ∧ ∀ i m σ H, W i m σ H →
      ((Itt K a).stop i H ∧ D.nx σ H) ∨ ((Itt K a).go i H ∧ ∃ N : St → Hp → Prop, (∀ σ' H', N σ' H' → ∃ m', m' < m ∧ W (i + 1) m' σ' H') ∧ ∀ x H', (Itt K a).yld i H x H' → g x σ H' fun σ2 H2 => tb { D with nx := N, ct := N, bk := D.nx } σ2 H2) := by
  refine ⟨fun i m σ H => m = xs.length - i ∧ i ≤ xs.length ∧ Pv i σ H, ⟨xs.length, by simp, Nat.zero_le _, h0⟩, ?_⟩
  rintro i m σ H ⟨rfl, hi, p⟩
  have q := hl i σ H hi p
  by_cases hlt : i < xs.length
  · refine .inr ⟨⟨xs, xs[i], q, by simp [hlt]⟩, Pv (i + 1), fun σ' H' p' => ⟨xs.length - (i + 1), by omega, rfl, hlt, p'⟩, fun x H' y => ?_⟩
    obtain ⟨e, y⟩ := y
    subst e
    exact hs i x σ _ (y xs q) p
  · have e : i = xs.length := by omega
    subst e
    exact .inl ⟨⟨xs, q, Nat.le_refl _⟩, hd σ H p⟩
theorem for_range {lo : Int} {n : Nat} {g : TG} {tb : TS} {D : Ends} {σ : St} {H : Hp} (Pv : Nat → St → Hp → Prop) (h0 : Pv 0 σ H)
    (hs : ∀ i σ H, i < n → Pv i σ H → g (.int (lo + i)) σ H fun σ2 H2 => tb { D with nx := Pv (i + 1), ct := Pv (i + 1), bk := D.nx } σ2 H2) (hd : ∀ σ H, Pv n σ H → D.nx σ H) :
    ∃ W : Nat → Nat → St → Hp → Prop, (∃ m, W 0 m σ H) ∧ ∀ i m σ H, W i m σ H →
      ((Itr lo n).stop i H ∧ D.nx σ H) ∨ ((Itr lo n).go i H ∧ ∃ N : St → Hp → Prop, (∀ σ' H', N σ' H' → ∃ m', m' < m ∧ W (i + 1) m' σ' H') ∧ ∀ x H', (Itr lo n).yld i H x H' → g x σ H' fun σ2 H2 => tb { D with nx := N, ct := N, bk := D.nx } σ2 H2) := by
  refine ⟨fun i m σ H => m = n - i ∧ i ≤ n ∧ Pv i σ H, ⟨n, by simp, Nat.zero_le _, h0⟩, ?_⟩
  rintro i m σ H ⟨rfl, hi, p⟩
  by_cases hlt : i < n
  · refine .inr ⟨hlt, Pv (i + 1), fun σ' H' p' => ⟨n - (i + 1), by omega, rfl, hlt, p'⟩, fun x H' y => ?_⟩
    obtain ⟨e, y⟩ := y
    subst e y
    exact hs i σ _ hlt p
  · have e : i = n := by omega
    subst e
    exact .inl ⟨Nat.le_refl _, hd σ H p⟩
theorem while_by {c : TT} {tb : TS} {D : Ends} {σ : St} {H : Hp} (Pv : St → Hp → Prop) (μ : St → Hp → Nat) (h0 : Pv σ H)
    (hs : ∀ σ H, Pv σ H → c σ H fun b H1 => if b = true then tb { D with nx := fun σ' H' => Pv σ' H' ∧ μ σ' H' < μ σ H, ct := fun σ' H' => Pv σ' H' ∧ μ σ' H' < μ σ H, bk := D.nx } σ H1 else D.nx σ H1)
    (mono : ∀ σ H Q Q', (∀ b H1, Q b H1 → Q' b H1) → c σ H Q → c σ H Q') : tWhile c tb D σ H := by
  refine ⟨fun m σ H => m = μ σ H ∧ Pv σ H, ⟨_, rfl, h0⟩, ?_⟩
  rintro m σ H ⟨rfl, p⟩
  refine mono σ H _ _ (fun b H1 q => ?_) (hs σ H p)
  cases b with
  | true => exact ⟨_, fun σ' H' ⟨p', l⟩ => ⟨_, l, rfl, p'⟩, q⟩
  | false => exact q
end L2
namespace L2
open PySem PySem.Spec PyProof.Rows
abbrev R2 := V → V → Hp → VK → Prop
def OpR (X : Cx) (f : Value → Value → Sem Value) (r : R2) : Prop :=
  ∀ (pins : List (Addr × Obj)) (s : Shared) (σ : St) (H : Hp) (x y : V) (v u : Value) (Q : VK), Inv X pins σ H s → RelV x v → RelV y u → r x y H Q →
    wpAny (model X.prog X.w) X.A (f v u) (EP X pins σ Q) X.xe s
def UnR (X : Cx) (f : Value → Sem Value) (r : V → Hp → VK → Prop) : Prop :=
  ∀ (pins : List (Addr × Obj)) (s : Shared) (σ : St) (H : Hp) (x : V) (v : Value) (Q : VK), Inv X pins σ H s → RelV x v → r x H Q →
    wpAny (model X.prog X.w) X.A (f v) (EP X pins σ Q) X.xe s
def CallR (X : Cx) (f : Value) (r : List V → Hp → VK → Prop) : Prop :=
  ∀ (pins : List (Addr × Obj)) (s : Shared) (σ : St) (H : Hp) (xs : List V) (us : List Value) (Q : VK), Inv X pins σ H s → Vals xs us → r xs H Q →
    wpAny (model X.prog X.w) X.A (call f us) (EP X pins σ Q) X.xe s
def TruR (X : Cx) (r : V → Hp → (Bool → Hp → Prop) → Prop) : Prop :=
  ∀ (pins : List (Addr × Obj)) (s : Shared) (σ : St) (H : Hp) (x : V) (v : Value) (Q : Bool → Hp → Prop), Inv X pins σ H s → RelV x v → r x H Q →
    wpAny (model X.prog X.w) X.A (truthy v) (TP X pins σ Q) X.xe s
def tOp (r : R2) (ta tb : TE) : TE := fun σ H Q => ta σ H fun x H1 => tb σ H1 fun y H2 => r x y H2 Q
def tUn (r : V → Hp → VK → Prop) (ta : TE) : TE := fun σ H Q => ta σ H fun x H1 => r x H1 Q
def rI (C : Int → Int → Prop) (g : Int → Int → V) : R2 := fun x y H Q => ∃ i j, x = .int i ∧ y = .int j ∧ C i j ∧ Q (g i j) H
def rI0 (g : Int → Int → V) : R2 := fun x y H Q => ∃ i j, x = .int i ∧ y = .int j ∧ Q (g i j) H
def rU (g : Int → V) : V → Hp → VK → Prop := fun x H Q => ∃ i, x = .int i ∧ Q (g i) H
section
variable {X : Cx} {a b c : Expr} {ta tb tc : TE} {pos : Pos}
theorem binT (ha : PE X a ta) (hb : PE X b tb) {pins : List (Addr × Obj)} {s : Shared} {σ : St} {H : Hp} {R : V → V → Hp → Prop} (I : Inv X pins σ H s)
    (h : ta σ H fun x H1 => tb σ H1 fun y H2 => R x y H2) {Q : Value → Shared → Prop} {f : Value → Value → Sem Value}
    (hf : ∀ v u s2 x y H2, Inv X pins σ H2 s2 → RelV x v → RelV y u → R x y H2 → wpAny (model X.prog X.w) X.A (f v u) Q X.xe s2) :
    wpAny (model X.prog X.w) X.A (eval a X.env) (fun v s₁ => wpAny (model X.prog X.w) X.A (eval b X.env) (fun u s₂ => wpAny (model X.prog X.w) X.A (f v u) Q X.xe s₂) X.xe s₁) X.xe s := by
  refine thn (ha pins s σ H _ I h) fun v s1 ⟨x, H1, I1, r1, q1⟩ => ?_
  refine thn (hb pins s1 σ H1 _ I1 q1) fun u s2 ⟨y, H2, I2, r2, q2⟩ => ?_
  exact hf v u s2 x y H2 I2 r1 r2 q2
theorem pe_op {op : Operator} {r : R2} (ho : OpR X (binaryOp op) r) (ha : PE X a ta) (hb : PE X b tb) : PE X (.BinOp a op b pos) (tOp r ta tb) := by
  intro pins s σ H Q I h
  exact wpAny_BinOp (binT ha hb I h fun v u s2 x y H2 I2 rx ry q => ho pins s2 σ H2 x y v u Q I2 rx ry q)
theorem pe_un {op : UnaryOp} {r : V → Hp → VK → Prop} (ho : UnR X (unaryOp op) r) (ha : PE X a ta) : PE X (.UnaryOp op a pos) (tUn r ta) := by
  intro pins s σ H Q I h
  exact UnaryOp_ (thn (ha pins s σ H _ I h) fun v s1 ⟨x, H1, I1, r1, q1⟩ => ho pins s1 σ H1 x v Q I1 r1 q1)
theorem opI {f : Value → Value → Sem Value} {C : Int → Int → Prop} {g : Int → Int → Int}
    (rule : ∀ (i j : Int) (t u : Tok) (s : Shared) (Q : Value → Shared → Prop) (E : Value → Shared → Prop), C i j → Q (.int (g i j) s.toks) { s with toks := s.toks + 1 } → wpAny (model X.prog X.w) X.A (f (.int i t) (.int j u)) Q E s) :
    OpR X f (rI C fun i j => .int (g i j)) := by
  intro pins s σ H x y v u Q I rx ry h
  obtain ⟨i, j, rfl, rfl, hc, q⟩ := h
  obtain ⟨t, rfl⟩ := rx
  obtain ⟨t', rfl⟩ := ry
  exact rule i j t t' s _ _ hc ⟨.int (g i j), H, I.tok _, ⟨_, rfl⟩, q⟩
theorem opI0 {f : Value → Value → Sem Value} {g : Int → Int → Int}
    (rule : ∀ (i j : Int) (t u : Tok) (s : Shared) (Q : Value → Shared → Prop) (E : Value → Shared → Prop), Q (.int (g i j) s.toks) { s with toks := s.toks + 1 } → wpAny (model X.prog X.w) X.A (f (.int i t) (.int j u)) Q E s) :
    OpR X f (rI0 fun i j => .int (g i j)) := by
  intro pins s σ H x y v u Q I rx ry h
  obtain ⟨i, j, rfl, rfl, q⟩ := h
  obtain ⟨t, rfl⟩ := rx
  obtain ⟨t', rfl⟩ := ry
  exact rule i j t t' s _ _ ⟨.int (g i j), H, I.tok _, ⟨_, rfl⟩, q⟩
theorem opB0 {f : Value → Value → Sem Value} {g : Int → Int → Bool}
    (rule : ∀ (i j : Int) (t u : Tok) (s : Shared) (Q : Value → Shared → Prop) (E : Value → Shared → Prop), Q (.bool (g i j)) s → wpAny (model X.prog X.w) X.A (f (.int i t) (.int j u)) Q E s) :
    OpR X f (rI0 fun i j => .bl (g i j)) := by
  intro pins s σ H x y v u Q I rx ry h
  obtain ⟨i, j, rfl, rfl, q⟩ := h
  obtain ⟨t, rfl⟩ := rx
  obtain ⟨t', rfl⟩ := ry
  exact rule i j t t' s _ _ ⟨.bl (g i j), H, I, rfl, q⟩
def CDiv (i j : Int) : Prop := 0 < j ∧ j < 1073741824
def CMul (i j : Int) : Prop := (-(2 ^ 64) < i ∧ i < 2 ^ 64) ∨ (-(2 ^ 64) < j ∧ j < 2 ^ 64)
theorem CMul.ok {i j : Int} (h : CMul i j) : IntMulOk i j := by
  rcases h with ⟨h1, h2⟩ | ⟨h1, h2⟩
  · exact .of_left (intBits_le_64 h1 h2)
  · exact .of_right (intBits_le_64 h1 h2)
theorem op_add : OpR X (binaryOp .Add) (rI0 fun i j => .int (i + j)) := opI0 fun _ _ _ _ _ _ _ q => add_int q
theorem op_sub : OpR X (binaryOp .Sub) (rI0 fun i j => .int (i - j)) := opI0 fun _ _ _ _ _ _ _ q => sub_int q
theorem op_mul : OpR X (binaryOp .Mult) (rI CMul fun i j => .int (i * j)) := opI fun _ _ _ _ _ _ _ hc q => mul_int q hc.ok
theorem op_fdiv : OpR X (binaryOp .FloorDiv) (rI CDiv fun i j => .int (i / j)) := opI fun i j _ _ _ _ _ hc q => by
  have h1 : (0 : Int) < j := hc.1
  have h2 : j < 1073741824 := hc.2
  exact floordiv_int (by omega) (by rw [Int.fdiv_eq_ediv_of_nonneg i (by omega)]; exact q) (.inl (PyProof.noPylong_small (by omega)))
theorem op_mod : OpR X (binaryOp .Mod) (rI (fun _ j => 0 < j) fun i j => .int (i % j)) := opI fun i j _ _ _ _ _ hc q => by
  have h1 : (0 : Int) < j := hc
  exact mod_int' (by omega) (by rw [Int.fmod_eq_emod_of_nonneg i (by omega)]; exact q)
theorem unI {f : Value → Sem Value} {g : Int → Int}
    (rule : ∀ (i : Int) (t : Tok) (s : Shared) (Q : Value → Shared → Prop) (E : Value → Shared → Prop), Q (.int (g i) s.toks) { s with toks := s.toks + 1 } → wpAny (model X.prog X.w) X.A (f (.int i t)) Q E s) :
    UnR X f (rU fun i => .int (g i)) := by
  intro pins s σ H x v Q I rx h
  obtain ⟨i, rfl, q⟩ := h
  obtain ⟨t, rfl⟩ := rx
  exact rule i t s _ _ ⟨.int (g i), H, I.tok _, ⟨_, rfl⟩, q⟩
theorem un_neg : UnR X (unaryOp .USub) (rU fun i => .int (-i)) := unI fun _ _ _ _ _ q => neg_int q
end
def scal : V → V → Bool
  | .non, .non => true | .non, .int _ => true | .int _, .non => true | .non, .bl _ => true | .bl _, .non => true | .non, .str _ => true | .str _, .non => true
  | .int _, .int _ => true | .bl _, .bl _ => true | .str _, .str _ => true | .byt _, .byt _ => true
  | .int _, .str _ => true | .str _, .int _ => true | .bl _, .str _ => true | .str _, .bl _ => true
  | _, _ => false
def rEq : R2 := fun x y H Q => scal x y = true ∧ Q (.bl (decide (x = y))) H
def rNe : R2 := fun x y H Q => scal x y = true ∧ Q (.bl (!decide (x = y))) H
theorem dec_int {i j : Int} : decide (V.int i = V.int j) = (i == j) := by
  rw [Bool.eq_iff_iff]
  simp
theorem dec_bl {i j : Bool} : decide (V.bl i = V.bl j) = (i == j) := by
  rw [Bool.eq_iff_iff]
  simp
theorem dec_str {i j : Str} : decide (V.str i = V.str j) = (i == j) := by
  rw [Bool.eq_iff_iff]
  simp
theorem dec_byt {i j : Array UInt8} : decide (V.byt i = V.byt j) = (i.toList == j.toList) := by
  rw [Bool.eq_iff_iff]
  cases i
  cases j
  simp
section
variable {X : Cx} {a b c : Expr} {ta tb tc : TE} {pos : Pos}
theorem fin_bl {pins : List (Addr × Obj)} {σ : St} {H : Hp} {s : Shared} {Q : VK} {k k' : Bool} (I : Inv X pins σ H s) (q : Q (.bl k) H) (e : k = k') : EP X pins σ Q (.bool k') s := by
  subst e
  exact ⟨.bl k, H, I, rfl, q⟩
theorem op_eq : OpR X (compareOp .Eq) rEq := by
  intro pins s σ H x y v u Q I rx ry h
  obtain ⟨hs, q⟩ := h
  cases x with
  | non =>
    cases rx
    cases y with
    | non => cases ry; exact PySem.EqNone.eq_none_none (fin_bl I q (by simp))
    | bl j => cases ry; exact PySem.EqNone.eq_none_bool (fin_bl I q (by simp))
    | int j => obtain ⟨t', rfl⟩ := ry; exact PySem.EqNone.eq_none_int (fin_bl I q (by simp))
    | str j => obtain ⟨t', rfl⟩ := ry; exact PySem.EqNone.eq_none_str (fin_bl I q (by simp))
    | _ => exact absurd (show false = true from hs) Bool.false_ne_true
  | bl i =>
    cases rx
    cases y with
    | non => cases ry; exact PySem.EqNone.eq_bool_none (fin_bl I q (by simp))
    | bl j => cases ry; exact eq_bool (fin_bl I q dec_bl)
    | str j => obtain ⟨t', rfl⟩ := ry; exact PySem.EqMixed.eq_bool_str (fin_bl I q (by simp))
    | _ => exact absurd (show false = true from hs) Bool.false_ne_true
  | int i =>
    obtain ⟨t, rfl⟩ := rx
    cases y with
    | non => cases ry; exact PySem.EqNone.eq_int_none (fin_bl I q (by simp))
    | int j => obtain ⟨t', rfl⟩ := ry; exact eq_int (fin_bl I q dec_int)
    | str j => obtain ⟨t', rfl⟩ := ry; exact PySem.EqMixed.eq_int_str (fin_bl I q (by simp))
    | _ => exact absurd (show false = true from hs) Bool.false_ne_true
  | str i =>
    obtain ⟨t, rfl⟩ := rx
    cases y with
    | non => cases ry; exact PySem.EqNone.eq_str_none (fin_bl I q (by simp))
    | bl j => cases ry; exact PySem.EqMixed.eq_str_bool (fin_bl I q (by simp))
    | int j => obtain ⟨t', rfl⟩ := ry; exact PySem.EqMixed.eq_str_int (fin_bl I q (by simp))
    | str j => obtain ⟨t', rfl⟩ := ry; exact eq_str (fin_bl I q dec_str)
    | _ => exact absurd (show false = true from hs) Bool.false_ne_true
  | byt i =>
    obtain ⟨t, rfl⟩ := rx
    cases y with
    | byt j => obtain ⟨t', rfl⟩ := ry; exact PySem.W.eq_bytes (fin_bl I q dec_byt)
    | _ => exact absurd (show false = true from hs) Bool.false_ne_true
  | _ => cases y <;> exact absurd (show false = true from hs) Bool.false_ne_true
theorem op_ne : OpR X (compareOp .NotEq) rNe := by
  intro pins s σ H x y v u Q I rx ry h
  obtain ⟨hs, q⟩ := h
  cases x with
  | non =>
    cases rx
    cases y with
    | non => cases ry; exact PySem.EqNone.ne_none_none (fin_bl I q (by simp))
    | bl j => cases ry; exact PySem.EqNone.ne_none_bool (fin_bl I q (by simp))
    | int j => obtain ⟨t', rfl⟩ := ry; exact PySem.EqNone.ne_none_int (fin_bl I q (by simp))
    | str j => obtain ⟨t', rfl⟩ := ry; exact PySem.EqNone.ne_none_str (fin_bl I q (by simp))
    | _ => exact absurd (show false = true from hs) Bool.false_ne_true
  | bl i =>
    cases rx
    cases y with
    | non => cases ry; exact PySem.EqNone.ne_bool_none (fin_bl I q (by simp))
    | bl j => cases ry; exact ne_bool (fin_bl I q (congrArg not dec_bl))
    | str j => obtain ⟨t', rfl⟩ := ry; exact PySem.EqMixed.ne_bool_str (fin_bl I q (by simp))
    | _ => exact absurd (show false = true from hs) Bool.false_ne_true
  | int i =>
    obtain ⟨t, rfl⟩ := rx
    cases y with
    | non => cases ry; exact PySem.EqNone.ne_int_none (fin_bl I q (by simp))
    | int j => obtain ⟨t', rfl⟩ := ry; exact ne_int (fin_bl I q (congrArg not dec_int))
    | str j => obtain ⟨t', rfl⟩ := ry; exact PySem.EqMixed.ne_int_str (fin_bl I q (by simp))
    | _ => exact absurd (show false = true from hs) Bool.false_ne_true
  | str i =>
    obtain ⟨t, rfl⟩ := rx
    cases y with
    | non => cases ry; exact PySem.EqNone.ne_str_none (fin_bl I q (by simp))
    | bl j => cases ry; exact PySem.EqMixed.ne_str_bool (fin_bl I q (by simp))
    | int j => obtain ⟨t', rfl⟩ := ry; exact PySem.EqMixed.ne_str_int (fin_bl I q (by simp))
    | str j => obtain ⟨t', rfl⟩ := ry; exact ne_str (fin_bl I q (congrArg not dec_str))
    | _ => exact absurd (show false = true from hs) Bool.false_ne_true
  | byt i =>
    obtain ⟨t, rfl⟩ := rx
    cases y with
    | byt j => obtain ⟨t', rfl⟩ := ry; exact PySem.W.ne_bytes (fin_bl I q (congrArg not dec_byt))
    | _ => exact absurd (show false = true from hs) Bool.false_ne_true
  | _ => cases y <;> exact absurd (show false = true from hs) Bool.false_ne_true
theorem op_lt : OpR X (compareOp .Lt) (rI0 fun i j => .bl (decide (i < j))) := opB0 fun _ _ _ _ _ _ _ q => lt_int q
theorem op_gt : OpR X (compareOp .Gt) (rI0 fun i j => .bl (decide (j < i))) := opB0 fun _ _ _ _ _ _ _ q => gt_int q
theorem nomark (b : Expr) {op : CmpOp} (h : op ≠ .In := by decide) (h2 : op ≠ .NotIn := by decide) : behindInMarks op b = false := by
  have e1 : (op == CmpOp.In) = false := by cases op <;> first | rfl | exact absurd rfl h
  have e2 : (op == CmpOp.NotIn) = false := by cases op <;> first | rfl | exact absurd rfl h2
  cases b <;> simp [behindInMarks, e1, e2]
theorem pe_cmpR {op : CmpOp} {r : R2} (ho : OpR X (compareOp op) r) (ha : PE X a ta) (hb : PE X b tb) (hm : behindInMarks op b = false) : PE X (.Compare a [op] [b] pos) (tOp r ta tb) := by
  intro pins s σ H Q I h
  exact wpAny_Compare1 (binT ha hb I h fun v u s2 x y H2 I2 rx ry q => ho pins s2 σ H2 x y v u Q I2 rx ry q) hm
def tTest (t : TE) : TT := fun σ H Q => t σ H fun x H' => ∃ k, x = .bl k ∧ Q k H'
theorem pt_cmpR {op : CmpOp} {r : R2} (ho : OpR X (compareOp op) r) (ha : PE X a ta) (hb : PE X b tb) (hm : behindInMarks op b = false) : PT X (.Compare a [op] [b] pos) (tTest (tOp r ta tb)) := by
  intro pins s σ H Q I h
  refine wpAny_isTrue_Compare1 (thn (ha pins s σ H _ I h) fun v s1 ⟨x, H1, I1, r1, q1⟩ => thn (hb pins s1 σ H1 _ I1 q1) fun u s2 ⟨y, H2, I2, r2, q2⟩ =>
    thn (ho pins s2 σ H2 x y v u _ I2 r1 r2 q2) fun c s3 ⟨z, H3, I3, r3, k, e, q3⟩ => ?_) hm
  subst e
  cases r3
  exact wpAny_truthy_bool ⟨H3, I3, q3⟩
def TruV (K : PySem.W.Frag) (x : V) (H : Hp) (k : Bool) : Prop :=
  match x with
  | .non => k = false
  | .bl b => k = b
  | .int i => k = (i != 0)
  | .str y => y.length ≤ sizeLine ∧ k = ((y.length : Int) != 0)
  | .byt y => y.size ≤ sizeLine ∧ k = ((y.size : Int) != 0)
  | .ref p => (∃ xs, SqL K H p xs ∧ k = !xs.isEmpty) ∨ (∃ xs, SqT K H p xs ∧ k = !xs.isEmpty) ∨ ∃ kvs, H p = some (.dK kvs) ∧ k = !kvs.isEmpty
  | _ => False
theorem isEmpty_kv {κ : Type} {kvs : List (κ × V)} {vs : List (κ × Value)} (r : KV kvs vs) : (!vs.isEmpty) = !kvs.isEmpty := by
  cases r <;> rfl
theorem isEmpty_of {xs : List V} {its : List Value} (r : Vals xs its) : (!its.toArray.isEmpty) = !xs.isEmpty := by
  cases r <;> simp
theorem line63 : (sizeLine : Nat) < 2 ^ 63 := by rw [sizeLine_eq]; decide
theorem tru_ok : TruR X (fun x H Q => ∃ k, TruV X.K x H k ∧ Q k H) := by
  intro pins s σ H x v Q I rx h
  obtain ⟨k, e, q⟩ := h
  have hl := line63
  have hs : sizeLine = 16777216 := sizeLine_eq
  cases x with
  | non =>
    cases rx
    have e' : k = false := e
    subst e'
    exact truthy_none ⟨H, I, q⟩
  | bl b =>
    cases rx
    have e' : k = b := e
    subst e'
    exact wpAny_truthy_bool ⟨H, I, q⟩
  | int i =>
    obtain ⟨t, rfl⟩ := rx
    have e' : k = (i != 0) := e
    subst e'
    exact PySem.P.truthy_int ⟨H, I, q⟩
  | str y =>
    obtain ⟨t, rfl⟩ := rx
    obtain ⟨hy, e'⟩ : y.length ≤ sizeLine ∧ k = ((y.length : Int) != 0) := e
    subst e'
    exact PySem.P.truthy_str (by omega) ⟨H, I.tok _, q⟩
  | byt y =>
    obtain ⟨t, rfl⟩ := rx
    obtain ⟨hy, e'⟩ : y.size ≤ sizeLine ∧ k = ((y.size : Int) != 0) := e
    subst e'
    exact PySem.W.truthy_bytes (by omega) ⟨H, I.tok _, q⟩
  | ref p =>
    cases rx
    have e' : (∃ xs, SqL X.K H p xs ∧ k = !xs.isEmpty) ∨ (∃ xs, SqT X.K H p xs ∧ k = !xs.isEmpty) ∨ ∃ kvs, H p = some (.dK kvs) ∧ k = !kvs.isEmpty := e
    rcases e' with ⟨xs, hx, e'⟩ | ⟨xs, hx, e'⟩ | ⟨kvs, hx, e'⟩
    · subst e'
      obtain ⟨its, r, pl, hz⟩ := I.list hx
      have hlen := r.length
      exact wpAny_truthy_list pl.isList (by simp only [List.size_toArray]; omega) ⟨H, I.tok _, by rw [isEmpty_of r]; exact q⟩
    · subst e'
      obtain ⟨its, r, pl, hz⟩ := I.tuple hx
      have hlen := r.length
      exact truthy_tuple pl (by simp only [List.size_toArray]; omega) ⟨H, I.tok _, by rw [isEmpty_of r]; exact q⟩
    · subst e'
      obtain ⟨hz, hS, vs, r, m⟩ : kvs.length ≤ sizeLine ∧ (p == sysModules) = false ∧ ∃ vs, KV kvs vs ∧ s.heap.DictOf (mixKind X.prog X.w) p vs := I.hok p _ hx
      have hlen : kvs.length = vs.length := Paired.length r
      exact wpAny_truthy_dict hS m (by omega) ⟨H, I.tok _, by rw [isEmpty_kv r]; exact q⟩
  | _ => exact (show False from e).elim
theorem pt_truth (ha : PE X a ta) (he : ∀ whole, isTrue a X.env whole = (do let v ← whole; standAt a.pos; holding [v] (truthy v))) :
    PT X a (fun σ H Q => ta σ H fun x H' => ∃ k, TruV X.K x H' k ∧ Q k H') := by
  intro pins s σ H Q I h
  exact isTrue_plain (thn (ha pins s σ H _ I h) fun v s1 ⟨x, H1, I1, r1, q1⟩ => tru_ok pins s1 σ H1 x v Q I1 r1 q1) (he _)
theorem op_add_str : OpR X (binaryOp .Add) (fun x y H Q => ∃ i j, x = .str i ∧ y = .str j ∧ i.length + j.length ≤ sizeLine ∧ Q (.str (i ++ j)) H) := by
  intro pins s σ H x y v u Q I rx ry h
  obtain ⟨i, j, rfl, rfl, hz, q⟩ := h
  obtain ⟨t, rfl⟩ := rx
  obtain ⟨t', rfl⟩ := ry
  exact add_str (fun t' tk => ⟨.str (i ++ j), H, I.tok _, ⟨_, rfl⟩, q⟩) hz
theorem vals1 {x : V} {us : List Value} (r : Vals [x] us) : ∃ u, us = [u] ∧ RelV x u := by
  cases r with
  | cons r1 r2 => cases r2; exact ⟨_, rfl, r1⟩
theorem vals2 {x y : V} {us : List Value} (r : Vals [x, y] us) : ∃ u w', us = [u, w'] ∧ RelV x u ∧ RelV y w' := by
  cases r with
  | cons r1 r2 =>
    cases r2 with
    | cons r3 r4 => cases r4; exact ⟨_, _, rfl, r1, r3⟩
theorem call_min2 (hc : X.calm = true) : CallR X (.builtin "min") (fun xs H Q => ∃ i j, xs = [.int i, .int j] ∧ Q (.int (if j < i then j else i)) H) := by
  intro pins s σ H xs us Q I r h
  obtain ⟨i, j, rfl, q⟩ := h
  obtain ⟨u, w', rfl, ⟨t, rfl⟩, ⟨t', rfl⟩⟩ := vals2 r
  refine min_two_ints (I.ok.hd hc) fun h' tk k => ⟨_, H, I.kept k, ?_, q⟩
  by_cases hj : j < i
  · rw [if_pos hj, if_pos hj]; exact ⟨_, rfl⟩
  · rw [if_neg hj, if_neg hj]; exact ⟨_, rfl⟩
theorem call_int1 : CallR X (.type "int") (fun xs H Q => (∃ i, xs = [.int i] ∧ Q (.int i) H) ∨ ∃ k, xs = [.bl k] ∧ Q (.int (if k then 1 else 0)) H) := by
  intro pins s σ H xs us Q I r h
  rcases h with ⟨i, rfl, q⟩ | ⟨k, rfl, q⟩
  · obtain ⟨u, rfl, t, rfl⟩ := vals1 r
    exact call_int_int ⟨.int i, H, I, ⟨_, rfl⟩, q⟩
  · obtain ⟨u, rfl, r1⟩ := vals1 r
    cases r1
    exact call_int_bool ⟨.int (if k then 1 else 0), H, I.tok _, ⟨_, rfl⟩, q⟩
theorem call_str_int : CallR X (.type "str") (fun xs H Q => ∃ i, xs = [.int i] ∧ i.natAbs.log2 < 1920 ∧ Q (.str (toString i)) H) := by
  intro pins s σ H xs us Q I r h
  obtain ⟨i, rfl, hz, q⟩ := h
  obtain ⟨u, rfl, t, rfl⟩ := vals1 r
  exact PySem.P.str_of_int hz ⟨.str _, H, I.tok _, ⟨_, rfl⟩, q⟩
end
end L2
namespace L2
open PySem PySem.Spec PyProof.Rows
structure ObjM (h : Heap) (x dx C : Addr) (mA : Str → Option Value) : Prop where
  obj : h.get? x = some (PySem.W.instObj C dx)
  ns : h.Ns1 dx mA
  ne : dx ≠ x
theorem lookIn_ns {h : Heap} {dx : Addr} {mA : Str → Option Value} (n : h.Ns1 dx mA) : ∃ od, h.get? dx = some od ∧ ∀ name, PySem.W.lookIn name od = some (mA name) := by
  obtain ⟨o, es, ep, ho, hd, hk, _, hm⟩ := n
  refine ⟨o, ho, fun name => ?_⟩
  have e := hm name
  unfold nsFind findBy at e
  rw [← Array.find?_toList] at e
  unfold PySem.W.lookIn
  rw [hd]
  dsimp only
  split
  · rename_i y q
    rw [q] at e
    exact congrArg some e
  · rename_i q
    rw [q] at e
    have a : es.toList.any (·.refKey) = false := by
      rw [List.any_eq_false]
      intro y hy
      obtain ⟨z, t, hkey⟩ := hk y (Array.mem_toList_iff.mp hy)
      simp [DictEntry.refKey, hkey]
    have a' : ¬ es.toList.any (·.refKey) = true := by rw [a]; exact Bool.false_ne_true
    rw [if_neg a']
    exact congrArg some e
theorem ObjM.look {h : Heap} {x dx C : Addr} {mA : Str → Option Value} (I : ObjM h x dx C mA) : ∃ od, PySem.W.InstAt h x (PySem.W.instObj C dx) C (some od) ∧ ∀ name, PySem.W.lookIn name od = some (mA name) :=
  let ⟨od, ho, hl⟩ := lookIn_ns I.ns
  ⟨od, ⟨I.obj, rfl, rfl, ho⟩, hl⟩
section
variable {prog : Program} {w : World} {A : Around} {E : Value → Shared → Prop} {s : Shared} {K : PySem.W.Frag} {x dx C f : Addr} {mA : Str → Option Value} {name : Str} {v : Value}
end
theorem RelO.some_of {v : V} {o : Option Value} (r : RelO (some v) o) : ∃ u, o = some u ∧ RelV v u := by
  cases o with
  | none => exact (show False from r).elim
  | some u => exact ⟨u, rfl, r⟩
section
variable {P : Program} {w : World} {H H' : Hp} {h h' : Heap} {a C dx : Addr} {fs fs' : List (Str × V)}
theorem ins_get (hok : HOk P w H h) (e : H a = some (.ins C dx fs)) : ∃ mA, ObjM h a dx C mA ∧ (∀ f, RelO (fs.lookup f) (mA f)) ∧ PySem.Within mA (fs.map (·.1)) ∧ fs.length ≤ 1000 ∧ H dx = some (.own a) := by
  obtain ⟨d, z, ne, ob, mA, n, r, q⟩ := (show ObjOk P w H h a (.ins C dx fs) from hok a _ e)
  exact ⟨mA, ⟨ob, n, ne⟩, r, q, z, d⟩
end
structure Cls (K : PySem.W.Frag) (C : Addr) : Prop where
  pg : PySem.W.plainGet K C Str.empty = true
  hd : PySem.W.hasDictIn K C = true
  po : PySem.W.plainOver K C = true
  sa : PySem.W.findIn K (.ref C) "__setattr__" = some (some (.builtin "object.__setattr__"))
theorem Cls.get {K : PySem.W.Frag} {C : Addr} (c : Cls K C) (f : Str) : PySem.W.plainGet K C f = true := c.pg
section
variable {X : Cx} {pins : List (Addr × Obj)} {σ : St} {H : Hp} {s : Shared} {a C dx : Addr} {fs : List (Str × V)} {f : Str} {v : V} {A : Around} {E : Value → Shared → Prop}
end
def InOp (X : Cx) (op : Operator) (rd : V → V → Hp → VK → Prop) : Prop :=
  ∀ (pins : List (Addr × Obj)) (s : Shared) (σ : St) (H : Hp) (x y : V) (u v : Value) (Q : VK), Inv X pins σ H s → RelV x u → RelV y v → rd x y H Q → wpAny (model X.prog X.w) X.A (inplaceOp op u v) (EP X pins σ Q) X.xe s
section
variable {X : Cx} {o e value : Expr} {f : Str} {pos pos' tpos : Pos} {ta tv : TE}
def rAdd : V → V → Hp → VK → Prop := fun x y H Q => ∃ i j, x = .int i ∧ y = .int j ∧ Q (.int (i + j)) H
theorem in_add : InOp X .Add rAdd := by
  rintro pins s σ H x y u v Q I rx ry ⟨i, j, rfl, rfl, q⟩
  obtain ⟨t, rfl⟩ := (show ∃ t, u = Value.int i t from rx)
  obtain ⟨t', rfl⟩ := (show ∃ t', v = Value.int j t' from ry)
  exact PyProof.Rows.iadd_int ⟨.int (i + j), H, I.tok _, ⟨_, rfl⟩, q⟩
end
section
variable {X : Cx} {pins : List (Addr × Obj)} {σ : St} {H : Hp} {s : Shared} {A : Around} {E : Value → Shared → Prop} {Q : Value → Shared → Prop} {c : Value} {b : Bool}
inductive TyOf (K : PySem.W.Frag) (H : Hp) : V → Value → Prop where
  | non : TyOf K H .non (.type "NoneType")
  | bl (x : Bool) : TyOf K H (.bl x) (.type "bool")
  | int (i : Int) : TyOf K H (.int i) (.type "int")
  | str (x : Str) : TyOf K H (.str x) (.type "str")
  | flt (x : UInt64) : TyOf K H (.flt x) (.type "float")
  | lst {a : Addr} {xs : List V} (e : H a = some (.lst xs)) : TyOf K H (.ref a) (.type "list")
  | frz {a : Addr} {o : Obj} {xs : List V} (e : H a = some (.frz o (.lst xs))) : TyOf K H (.ref a) (.type "list")
  | tup {a : Addr} {xs : List V} (e : H a = some (.tup xs)) : TyOf K H (.ref a) (.type "tuple")
  | dK {a : Addr} {kvs : List (Key × V)} (e : H a = some (.dK kvs)) : TyOf K H (.ref a) (.type "dict")
  | dT {a : Addr} {kvs : List (List Key × V)} (e : H a = some (.dT kvs)) : TyOf K H (.ref a) (.type "dict")
  | ins {a C dx : Addr} {fs : List (Str × V)} (e : H a = some (.ins C dx fs)) (cl : Cls K C) (ha : PySem.W.findIn K (.ref C) "__class__" = some (some (.builtin "object.__class__")))
      (hn : PySem.W.specialIn K (.builtin "object.__class__") "__get__" = some (some (.builtin "getset_descriptor.__get__"))) (htk : PySem.W.takesIn K (.builtin "object.__class__") = some true)
      (hm : PySem.W.mroIn K C (.type "object") = some true) : TyOf K H (.ref a) (.ref C)
theorem isinst_ok {x : V} {u t : Value} (I : Inv X pins σ H s) (rx : RelV x u) (ty : TyOf X.K H x t) (e : PySem.W.kitOne X.K t c = some b) (h : ∀ tk, Q (.bool b) { s with toks := tk }) :
    wpAny (model X.prog X.w) A (call (.builtin "isinstance") [u, c]) Q E s := by
  cases ty with
  | non => cases (show u = Value.none from rx); exact PySem.W.kia_one PySem.W.kitx_none I.kIn True.intro e (fun z => nomatch z) h
  | bl y => cases (show u = Value.bool y from rx); exact PySem.W.kia_one PySem.W.kitx_bool I.kIn True.intro e (fun z => nomatch z) h
  | int i => obtain ⟨t, q⟩ := (show ∃ t, u = Value.int i t from rx); cases q; exact PySem.W.kia_one PySem.W.kitx_int I.kIn True.intro e (fun z => nomatch z) h
  | str y => obtain ⟨t, q⟩ := (show ∃ t, u = Value.str y t from rx); cases q; exact PySem.W.kia_one PySem.W.kitx_str I.kIn True.intro e (fun z => nomatch z) h
  | flt y => obtain ⟨t, q⟩ := (show ∃ t, u = Value.float y t from rx); cases q; exact PySem.W.kia_one PySem.W.kitx_float I.kIn True.intro e (fun z => nomatch z) h
  | @lst a xs ea =>
    cases (show u = Value.ref a from rx)
    obtain ⟨_, _, n, _, h1⟩ := (show ObjOk X.prog X.w H s.heap a (.lst xs) from I.hok a _ ea)
    exact PySem.W.kia_one PySem.W.kitx_list I.kIn ⟨_, h1, rfl⟩ e (fun z => nomatch z) h
  | @frz a ob xs ea =>
    cases (show u = Value.ref a from rx)
    obtain ⟨_, _, _, n, _, h1⟩ := (show ObjOk X.prog X.w H s.heap a (.frz ob (.lst xs)) from I.hok a _ ea)
    exact PySem.W.kia_one PySem.W.kitx_list I.kIn ⟨_, h1, rfl⟩ e (fun z => nomatch z) h
  | @tup a xs ea =>
    cases (show u = Value.ref a from rx)
    obtain ⟨_, _, _, p⟩ := (show ObjOk X.prog X.w H s.heap a (.tup xs) from I.hok a _ ea)
    obtain ⟨o, h1, h2, _⟩ := p
    exact PySem.W.kia_one PySem.W.kitx_tuple I.kIn ⟨o, h1, h2⟩ e (fun z => nomatch z) h
  | @dK a kvs ea =>
    cases (show u = Value.ref a from rx)
    obtain ⟨_, _, vs, _, p⟩ := (show ObjOk X.prog X.w H s.heap a (.dK kvs) from I.hok a _ ea)
    obtain ⟨o, es, ep, h1, h2, _⟩ := p
    exact PySem.W.kia_one PySem.W.kitx_dict I.kIn ⟨o, h1, h2.1⟩ e (fun z => nomatch z) h
  | @dT a kvs ea =>
    cases (show u = Value.ref a from rx)
    obtain ⟨_, _, xs, _, o, es, ep, h1, h2, _⟩ := (show ObjOk X.prog X.w H s.heap a (.dT kvs) from I.hok a _ ea)
    exact PySem.W.kia_one PySem.W.kitx_dict I.kIn ⟨o, h1, h2.1⟩ e (fun z => nomatch z) h
  | @ins a C dx fs ea cl ha hn htk hm =>
    cases (show u = Value.ref a from rx)
    obtain ⟨mA, O, _⟩ := ins_get I.hok ea
    obtain ⟨od, J, _⟩ := O.look
    exact PySem.W.kia_one (PySem.W.kitx_own (cl.get _) cl.hd ha hn htk hm) I.kIn J e (fun z => nomatch z) h
end
end L2
namespace L2
open PySem PySem.Spec PyProof.Rows
structure Room (k : Nat) (A : Around) : Prop where
  hd : A.handled = none
  dp : A.depth + 3 * k + 5 < recursionLimit
  un : A.units + 16 * k + 200 < cLine
theorem Room.mono {j k : Nat} {A : Around} (r : Room k A) (h : j ≤ k) : Room j A := ⟨r.hd, by have := r.dp; omega, by have := r.un; omega⟩
theorem Room.deeper {k : Nat} {A : Around} (r : Room (k + 1) A) (env : Env) : Room k (A.deeper env) :=
  ⟨r.hd, by have := r.dp; show A.depth + 1 + 3 * k + 5 < _; omega, by have := r.un; show A.units + 3 + 16 * k + 200 < _; omega⟩
theorem Room.depth {k : Nat} {A : Around} (r : Room k A) : A.depth < recursionLimit := by have := r.dp; omega
theorem Room.units {k : Nat} {A : Around} (r : Room k A) : A.units + 64 < cLine := by have := r.un; omega
def tNil : TA := fun _ H Q => Q [] H
def tCons (ta : TE) (tr : TA) : TA := fun σ H Q => ta σ H fun x H1 => tr σ H1 fun xs H2 => Q (x :: xs) H2
section
variable {X : Cx} {e : Expr} {es : List Expr} {te : TE} {t : TA} {pos : Pos}
theorem pa_nil : PA X [] tNil := fun _ _ _ _ H Q I h => Calls.spliced_nil ⟨[], H, I, .nil, h⟩
theorem pa_cons (ha : PE X e te) (hr : PA X es t) (hs : starEach (e :: es) X.env = (false, eval e X.env) :: starEach es X.env := by rfl) : PA X (e :: es) (tCons te t) := by
  intro pos pins s σ H Q I h
  rw [hs]
  show wpAny _ _ (spliced ((false, eval e X.env) :: backTo pos (starEach es X.env))) _ _ s
  refine Calls.spliced_cons (thn (ha pins s σ H _ I h) fun u s1 ⟨x, H1, I1, r1, q1⟩ => ?_)
  exact thn (hr pos pins s1 σ H1 _ I1 q1) fun us s2 ⟨xs, H2, I2, r2, q2⟩ => ⟨x :: xs, H2, I2, .cons r1 r2, q2⟩
def tTup (t : TA) : TE := fun σ H Q => t σ H fun xs H1 => xs.length ≤ sizeLine ∧ ∀ p, H1 p = none → Q (.ref p) (upd H1 p (.tup xs))
def tLst (t : TA) : TE := fun σ H Q => t σ H fun xs H1 => xs.length ≤ sizeLine ∧ ∀ p, H1 p = none → Q (.ref p) (upd H1 p (.lst xs))
theorem pe_tup {x1} (h : PA X es t) : PE X (.Tuple es x1 pos) (tTup t) := by
  intro pins s σ H Q I hq
  refine wpAny_Tuple_spliced (thn (h pos pins s σ H _ I hq) fun us s1 ⟨xs, H1, I1, r, z, q⟩ => ⟨by rw [← r.length]; exact z, ?_⟩)
  have hf : H1 s1.heap.objs.size = none := I1.hok.fresh (Nat.le_refl _)
  refine ⟨.ref s1.heap.objs.size, upd H1 s1.heap.objs.size (.tup xs), I1.laid (t' := s1.toks) (fun b u e => Heap.get?_push_of_some _ e) (Nat.le_refl _) ?_, rfl, q _ hf⟩
  exact ⟨z, us, r, ⟨_, Heap.get?_push_size _ rfl, rfl, _, rfl⟩⟩
theorem pe_lst (h : PA X es t) : PE X (.List es pos) (tLst t) := by
  intro pins s σ H Q I hq
  refine wpAny_List_spliced (thn (h pos pins s σ H _ I hq) fun us s1 ⟨xs, H1, I1, r, z, q⟩ => ⟨by rw [← r.length]; exact z, ?_⟩)
  have hf : H1 s1.heap.objs.size = none := I1.hok.fresh (Nat.le_refl _)
  refine ⟨.ref s1.heap.objs.size, upd H1 s1.heap.objs.size (.lst xs), I1.laid (t' := s1.toks) (fun b u e => Heap.get?_push_of_some _ e) (Nat.le_refl _) ?_, rfl, q _ hf⟩
  exact ⟨z, us, 0, r, Heap.get?_push_size _ rfl⟩
end
abbrev Sp := List V → Hp → VK → XK → Prop
abbrev CXT := List Env → Hp → Shared → XK → Value → Shared → Prop
structure Env0 (P : Program) (w : World) (K : PySem.W.Frag) (mg : Str → Option Value) (base : Heap) (A : Around) (outer : List Env) (s : Shared) (H : Hp) : Prop where
  frames : A.frames = some outer
  mod : Mod K mg base
  bs : ∀ b o, base.get? b = some o → s.heap.get? b = some o ∧ H b = none
  bsz : base.objs.size ≤ s.heap.objs.size
  funs : s.heap.FunFrames base outer
  frf : ∀ b ∈ frs outer, H b = none
  hok : HOk P w H s.heap
  bare : AllBare s.gens
def CE (outer : List Env) (P : Program) (w : World) (H : Hp) (s : Shared) (Q : VK) (u : Value) (s' : Shared) : Prop :=
  ∃ v H', s'.os = s.os ∧ AllBare s'.gens ∧ Un (frs outer) [] H H' s.heap s'.heap ∧ HOk P w H' s'.heap ∧ RelV v u ∧ Q v H'
def CR (CX : CXT) (outer : List Env) (P : Program) (w : World) (H : Hp) (s : Shared) (Q : VK) (E : XK) (r : Result) (s' : Shared) : Prop :=
  match r with
  | .ok (.ret u) => CE outer P w H s Q u s'
  | .ok _ => False
  | .error e => CX outer H s E e s'
structure FnOk (P : Program) (w : World) (K : PySem.W.Frag) (mg : Str → Option Value) (base : Heap) (CX : CXT) (k : Nat) (f : Addr) (fd : FuncData) (ps : List Str) (sp : Sp) : Prop where
  len : ∀ vs H Q E, sp vs H Q E → vs.length = ps.length
  run : ∀ (A : Around) (outer : List Env) (s : Shared) (H : Hp) (args : Args) (us : List Value) (vs : List V) (Q : VK) (E : XK), Room k A → Env0 P w K mg base A outer s H → BindsTo s fd args (ps.zip us) → Vals vs us → sp vs H Q E →
    codeAny (model P w) A (.call (.ref f) args) (CR CX outer P w H s Q E) s
section
variable {X : Cx} {pins : List (Addr × Obj)} {σ : St} {H : Hp} {s s' : Shared}
theorem Inv.env0 (I : Inv X pins σ H s) : Env0 X.prog X.w X.K X.mg X.base X.A X.stack s H :=
  ⟨I.ok.frames, I.ok.mod, I.bs, Nat.le_trans I.ok.bsz I.sz, I.stack, I.stkFree, I.hok, I.bare⟩
theorem Inv.after {Q : VK} {u : Value} (I : Inv X pins σ H s) (h : CE X.stack X.prog X.w H s Q u s') : EP X pins σ Q u s' := by
  obtain ⟨v, H', os, bare, un, hok, r, q⟩ := h
  obtain ⟨hh, g, d, t, os'⟩ := s'
  obtain rfl : os' = s.os := os
  exact ⟨v, H', I.call (h' := hh) (g' := g) (d' := d) (t' := t) (ch := []) un hok bare (fun b z => absurd z (by simp)), r, q⟩
end
def tCall (sp : Sp) (dvs : List V) (E : XK) (t : TA) : TE := fun σ H Q => t σ H fun vs H1 => sp (vs ++ dvs) H1 Q E
def Binds (K : PySem.W.Frag) (fd : FuncData) (ps : List Str) (ds : List Value) : Prop :=
  ∀ (s : Shared) (us : List Value), K.In s.heap → (us ++ ds).length = ps.length → BindsTo s fd ⟨us, []⟩ (ps.zip (us ++ ds))
theorem Binds.all {K : PySem.W.Frag} {fd : FuncData} {ps : List Str} (h : ∀ us : List Value, us.length = ps.length → bindArgs fd ⟨us, []⟩ = pure (ps.zip us)) : Binds K fd ps [] := fun s us _ hl => by
  rw [List.append_nil] at hl ⊢
  exact .of_eq (h us hl)
def Passes (CX : CXT) (X : Cx) (E : XK) : Prop := ∀ (pins : List (Addr × Obj)) (σ : St) (H : Hp) (s : Shared) (e : Value) (s' : Shared), Inv X pins σ H s → CX X.stack H s E e s' → X.xe e s'
section
variable {X : Cx} {CX : CXT} {k : Nat} {f C : Addr} {fd : FuncData} {ps : List Str} {sp : Sp} {dvs : List V} {ds : List Value} {E : XK} {x m : Str} {p pos apos : Pos} {e o : Expr} {es : List Expr} {ta : TE} {t : TA}
theorem run_fn {pins : List (Addr × Obj)} {σ : St} {H : Hp} {s : Shared} {Q : VK} {us : List Value} {vs : List V} (F : FnOk X.prog X.w X.K X.mg X.base CX k f fd ps sp) (hr : Room k X.A) (hb : Binds X.K fd ps ds) (hd : Vals dvs ds) (hx : Passes CX X E)
    (I : Inv X pins σ H s) (r : Vals vs us) (h : sp (vs ++ dvs) H Q E) : wpAny (model X.prog X.w) X.A (call (.ref f) us) (EP X pins σ Q) X.xe s := by
  have r2 : Vals (vs ++ dvs) (us ++ ds) := r.append hd
  have hl : (us ++ ds).length = ps.length := by rw [← r2.length]; exact F.len _ _ _ _ h
  refine wpAny_call (codeAny_mono (F.run X.A X.stack s H ⟨us, []⟩ (us ++ ds) (vs ++ dvs) Q E hr I.env0 (hb s us I.kIn hl) r2 h) fun r s' hq => ?_)
  cases r with
  | error e => exact hx pins σ H s e s' I hq
  | ok fl =>
    cases fl with
    | ret u => exact I.after hq
    | next => exact False.elim hq
    | brk => exact False.elim hq
    | cont => exact False.elim hq
theorem pe_call (F : FnOk X.prog X.w X.K X.mg X.base CX k f fd ps sp) (hr : Room k X.A) (hg : Gl X x) (hm : X.mg x = some (.ref f)) (hk : PySem.W.keepIn X.K (.ref f) = true) (hb : Binds X.K fd ps ds) (hd : Vals dvs ds) (hx : Passes CX X E)
    (ha : PA X (e :: es) t) (hdb : (x == ("__debug__" : Str)) = false := by decide) (he : starEach (e :: es) X.env = (false, eval e X.env) :: starEach es X.env := by rfl) (hpl : (backTo pos (starEach es X.env)).any (·.1) = false := by rfl) :
    PE X (.Call (.Name x p) (e :: es) [] pos) (tCall sp dvs E t) := by
  intro pins s σ H Q I h
  refine wpAny_Call_Name_kw (ld_glob I hg hm ?_ hdb)
  refine PySem.W.callWith_K (h₀ := X.base) I.ok.mod.kin hk (thn (ha pos pins s σ H _ I h) fun us s1 ⟨vs, H1, I1, r, q⟩ => ⟨I1.kIn, ?_⟩) he hpl
  exact run_fn F hr hb hd hx I1 r q
end
section
variable {X : Cx} {CX : CXT} {k : Nat} {f C : Addr} {fd : FuncData} {ps ks : List Str} {sp : Sp} {E : XK} {x m : Str} {p pos apos kpos : Pos} {e o : Expr} {es : List Expr} {kws : List Keyword} {te ta : TE} {t tk : TA} {nm : Option Str}
variable {g : List Value → List Value → List Value} {gV : List V → List V → List V}
end
structure FnScope (N P : List Str) (sc : Scope) : Prop where
  kind : sc.kind = .function
  co : sc.isCoroutine = false
  gen : sc.isGenerator = false
  nd : N.Nodup
  pre : N.take P.length = P
  par : ∀ x ∈ P, sc.names.lookup x = some .local ∨ sc.names.lookup x = some .cell
  nofree : ∀ y ∈ sc.names, y.2 ≠ .free
theorem bindL_out {kindOf : Str → Option NameKind} {x : Str} : ∀ {binds : List (Str × Value)} {m : Str → Option Value}, (∀ v, (x, v) ∉ binds) → bindL kindOf binds m x = m x
  | [], _, _ => rfl
  | (n, v) :: r, m, h => by
    unfold bindL
    rw [bindL_out fun w hw => h w (List.mem_cons_of_mem _ hw)]
    split
    · have : x ≠ n := by rintro rfl; exact h v List.mem_cons_self
      simp [this]
    · rfl
theorem bindC_out {kindOf : Str → Option NameKind} {x : Str} : ∀ {binds : List (Str × Value)} {m : Str → Option Value}, (∀ v, (x, v) ∉ binds) → bindC kindOf binds m x = m x
  | [], _, _ => rfl
  | (n, v) :: r, m, h => by
    unfold bindC
    rw [bindC_out fun w hw => h w (List.mem_cons_of_mem _ hw)]
    split
    · rfl
    · have : x ≠ n := by rintro rfl; exact h v List.mem_cons_self
      simp [this]
theorem bindL_get {kindOf : Str → Option NameKind} {x : Str} {v : Value} : ∀ {P : List Str} {vs : List Value} {i : Nat} {m : Str → Option Value}, P.Nodup → P[i]? = some x → vs[i]? = some v → kindOf x = some .local →
    bindL kindOf (P.zip vs) m x = some v
  | [], _, _, _, _, h, _, _ => by simp at h
  | _ :: _, [], _, _, _, _, h, _ => by simp at h
  | p :: P, w :: vs, 0, m, nd, h1, h2, hk => by
    simp at h1 h2; subst h1; subst h2
    show bindL kindOf ((p, w) :: P.zip vs) m p = _
    unfold bindL
    rw [bindL_out fun v hv => (List.nodup_cons.mp nd).1 (List.of_mem_zip hv).1, if_pos hk]
    simp
  | p :: P, w :: vs, i + 1, m, nd, h1, h2, hk => by
    show bindL kindOf ((p, w) :: P.zip vs) m x = _
    unfold bindL
    exact bindL_get (i := i) (List.nodup_cons.mp nd).2 (by simpa using h1) (by simpa using h2) hk
theorem bindC_get {kindOf : Str → Option NameKind} {x : Str} {v : Value} : ∀ {P : List Str} {vs : List Value} {i : Nat} {m : Str → Option Value}, P.Nodup → P[i]? = some x → vs[i]? = some v → kindOf x ≠ some .local →
    bindC kindOf (P.zip vs) m x = some v
  | [], _, _, _, _, h, _, _ => by simp at h
  | _ :: _, [], _, _, _, _, h, _ => by simp at h
  | p :: P, w :: vs, 0, m, nd, h1, h2, hk => by
    simp at h1 h2; subst h1; subst h2
    show bindC kindOf ((p, w) :: P.zip vs) m p = _
    unfold bindC
    rw [bindC_out fun v hv => (List.nodup_cons.mp nd).1 (List.of_mem_zip hv).1, if_neg hk]
    simp
  | p :: P, w :: vs, i + 1, m, nd, h1, h2, hk => by
    show bindC kindOf ((p, w) :: P.zip vs) m x = _
    unfold bindC
    exact bindC_get (i := i) (List.nodup_cons.mp nd).2 (by simpa using h1) (by simpa using h2) hk
def start (N : List Str) (vs : List V) : St := vs.map some ++ List.replicate (N.length - vs.length) none
def cxOf (CX : CXT) (P : Program) (w : World) (K : PySem.W.Frag) (mg : Str → Option Value) (base : Heap) (N : List Str) (qual : Str) (scope : Scope) (f : Addr) (cd : Value) (A : Around) (outer : List Env) (s : Shared) (H : Hp) (E : XK) : Cx where
  prog := P
  w := w
  K := K
  mg := mg
  base := base
  A := A.deeper (envOfC qual scope s.heap.objs.size f cd)
  N := N
  s₀ := s
  H₀ := H
  env := envOfC qual scope s.heap.objs.size f cd
  outer := outer
  stack := envOfC qual scope s.heap.objs.size f cd :: outer
  ex := []
  calm := true
  fn := fun _ => true
  pn := []
  xe := fun e s' => wpAny (model P w) (A.deeper (envOfC qual scope s.heap.objs.size f cd)) (leaving (envOfC qual scope s.heap.objs.size f cd) e) (fun _ s'' => CX outer H s E e s'') (fun e' s'' => CX outer H s E e' s'') s'
theorem cell_has {sc : Scope} {n : Nat} {x : Str} (h : sc.names.lookup x = some .cell) : ∃ c, (cellsFrom n sc.names []).lookup x = some c := by
  have q := PySem.W.cellsFrom_some sc.names n [] (.inl h)
  exact Option.isSome_iff_exists.mp q
theorem inv_start {CX : CXT} {P : Program} {w : World} {K : PySem.W.Frag} {mg : Str → Option Value} {base : Heap} {N ps : List Str} {qual : Str} {scope : Scope} {f : Addr} {cd : Value} {A : Around} {outer : List Env} {s s1 : Shared} {H : Hp} {E : XK} {us : List Value} {vs : List V}
    (S : FnScope N ps scope) (hd : A.handled = none) (e0 : Env0 P w K mg base A outer s H) (hl : vs.length = ps.length) (r : Vals vs us)
    (x : InCallC s s.heap.objs.size (bindL (envOfC qual scope s.heap.objs.size f cd).kindOf (ps.zip us) fun _ => none) (cellsFrom (s.heap.objs.size + 1) scope.names []) (bindC (envOfC qual scope s.heap.objs.size f cd).kindOf (ps.zip us) fun _ => none) s1) :
    Inv (cxOf CX P w K mg base N qual scope f cd A outer s H E) [] (start N vs) H s1 := by
  have hpl : ps.length ≤ N.length := by have := congrArg List.length S.pre; rw [List.length_take] at this; omega
  obtain ⟨h1, tk, rfl, hk⟩ := x.done
  have noA : ∀ b : Addr, b ∉ (cxOf CX P w K mg base N qual scope f cd A outer s H E).ex := fun b z => absurd (show b ∈ ([] : List Addr) from z) (by simp)
  refine ⟨⟨e0.mod, S.kind, rfl, rfl, Nat.le_refl _, fun y z c h1 h2 => ?_, fun y hy => ?_, fun y c _ h => ?_, fun _ => hd, Around.frames_deeper e0.frames, .inr ⟨rfl, rfl⟩, fun b z => absurd z (noA b), e0.bs, e0.bsz, fun b _ _ => noA b, fun b z => absurd z (noA b), e0.funs, e0.frf⟩,
    rfl, e0.bare, Un.kept hk, ⟨_, x.toInCall.ns, fun i y v h1 h2 h3 => ?_⟩, fun y c h => ⟨_, x.cell y c h⟩, e0.hok.fresh (Nat.le_refl _), fun y c h => ?_, fun p hp => absurd (show p ∈ ([] : List (Addr × Obj)) from hp) (by simp), e0.hok.kept hk, ?_⟩
  · exact name_of_addr x.apart (PySem.mem_of_lookup h1) (PySem.mem_of_lookup h2)
  · have hy : scope.names.lookup y = some .cell ∨ scope.names.lookup y = some .free := hy
    rcases hy with hy | hy
    · exact cell_has hy
    · exact absurd rfl (S.nofree _ (PySem.mem_of_lookup hy))
  · exact Nat.le_of_lt (x.above y c (PySem.mem_of_lookup h))
  · have hi : i < vs.length := by
      unfold start at h2
      by_cases hi : i < vs.length
      · exact hi
      · rw [List.getElem?_append_right (by simpa using hi)] at h2
        rw [List.getElem?_replicate] at h2
        split at h2 <;> cases h2
    have ha : vs[i]? = some v := by
      unfold start at h2
      rw [List.getElem?_append_left (by simpa using hi), List.getElem?_map] at h2
      cases e : vs[i]? with
      | none => rw [e] at h2; cases h2
      | some a => rw [e] at h2; cases h2; rfl
    obtain ⟨u, hu, rv⟩ := r.get ha
    have hp : ps[i]? = some y := by
      rw [← S.pre, List.getElem?_take_of_lt (by omega)]; exact h1
    have ndP : ps.Nodup := by rw [← S.pre]; exact S.nd.sublist (List.take_sublist _ _)
    refine ⟨u, rv, ?_⟩
    rcases S.par y (List.mem_of_getElem? hp) with k | k
    · exact .inl ⟨k, bindL_get ndP hp hu k⟩
    · obtain ⟨c, e⟩ := cell_has (n := s.heap.objs.size + 1) k
      refine .inr ⟨.inl k, c, e, ?_⟩
      have q := x.cell y c e
      rw [bindC_get ndP hp hu (by show scope.names.lookup y ≠ _; rw [k]; decide)] at q
      exact q
  · exact e0.hok.fresh (Nat.le_of_lt (x.above y c (PySem.mem_of_lookup h)))
  · unfold start
    show _ = N.length
    rw [List.length_append, List.length_map, List.length_replicate]
    omega
theorem fn_of {CX : CXT} {P : Program} {w : World} {K : PySem.W.Frag} {mg : Str → Option Value} {base : Heap} {k : Nat} {f : Addr} {name qual : Str} {params : Arguments} {body : List Stmt} {scope : Scope} {dV kV doc pm cdv ct oc : Value} {an od : Option Addr}
    {osl : Array (Option Value)} {N ps : List Str} {sp : Sp} (lk : K.lookup f = some ⟨oc, od, .func (PySem.W.fnOf name qual params body scope dV kV doc pm an cdv ct), osl⟩) (hcd : PySem.W.codeIn K cdv qual = true) (S : FnScope N ps scope)
    (len : ∀ vs H Q E, sp vs H Q E → vs.length = ps.length)
    (hbody : ∀ (A : Around) (outer : List Env) (s : Shared) (H : Hp) (vs : List V) (Q : VK) (E : XK), Room k (A.deeper (envOfC qual scope s.heap.objs.size f cdv)) → sp vs H Q E →
      ∃ t, PSs (cxOf CX P w K mg base N qual scope f cdv A outer s H E) body t ∧ t { nx := fun _ H' => Q .non H', rt := Q } (start N vs) H) :
    FnOk P w K mg base CX (k + 1) f (PySem.W.fnOf name qual params body scope dV kV doc pm an cdv ct) ps sp := by
  refine ⟨len, fun A outer s H args us vs Q E hr e0 hb r hsp => ?_⟩
  have hl := len _ _ _ _ hsp
  have KX : K.In s.heap := e0.mod.kin.keeps fun b o e => (e0.bs b o e).1
  have lim : s.heap.NoLimit := e0.mod.nolimit.keeps fun b o e => (e0.bs b o e).1
  have hkind : ∀ y ∈ ps.zip us, scope.names.lookup y.1 = some .local ∨ (scope.names.lookup y.1 = some .cell ∧ ((cellsFrom (s.heap.objs.size + 1) scope.names []).lookup y.1).isSome = true) := fun ⟨n, v⟩ hy => by
    rcases S.par n (List.of_mem_zip hy).1 with q | q
    · exact .inl q
    · exact .inr ⟨q, PySem.W.cellsFrom_some _ _ _ (.inl q)⟩
  refine codeAny_call_function hr.depth (KX _ _ lk) rfl S.co S.gen rfl (PySem.W.codeRec_of KX hcd) (hb _ _ _ _ ?_)
  refine wpAny_newFunctionEnv_cells S.kind hkind fun env he s1 x => ?_
  subst he
  refine ⟨lim.keeps x.toInCall.keep, codeAny_func ?_⟩
  obtain ⟨t, ht, hq⟩ := hbody A outer s H vs Q E (hr.deeper _) hsp
  have I : Inv (cxOf CX P w K mg base N qual scope f cdv A outer s H E) [] (start N vs) H s1 := inv_start S hr.hd e0 hl r x
  refine wpAny_mono (ht [] s1 (start N vs) H _ I hq) (fun fl s' hs => ?_) fun e s' hs => hs
  have fin : ∀ {σ' : St} {H' : Hp} {v : V} {u : Value}, Inv (cxOf CX P w K mg base N qual scope f cdv A outer s H E) [] σ' H' s' → RelV v u → Q v H' → CE outer P w H s Q u s' :=
    fun {σ' H' v u} J rv q => ⟨v, H', J.os, J.bare, J.base, J.hok, rv, q⟩
  cases fl with
  | ret u =>
    obtain ⟨v, σ', H', J, rv, q⟩ := hs
    exact fin J rv q
  | next =>
    obtain ⟨σ', H', J, q⟩ := hs
    exact fin (v := V.non) (u := Value.none) J rfl q
  | brk =>
    obtain ⟨_, _, _, q⟩ := hs
    exact False.elim q
  | cont =>
    obtain ⟨_, _, _, q⟩ := hs
    exact False.elim q
end L2
namespace L2
open PySem PySem.Spec PyProof.Rows
section
variable {X : Cx} {x : Str} {p pos : Pos} {e : Expr} {es : List Expr} {t : TA} {id T : String} {r : List V → Hp → VK → Prop}
def tCB (r : List V → Hp → VK → Prop) (t : TA) : TE := fun σ H Q => t σ H fun vs H1 => r vs H1 Q
theorem pe_callB (hc : CallR X (.builtin id) r) (hg : Gl X x) (hm : X.mg x = none) (hv : bootBuiltins x = some (.builtin id)) (ha : PA X (e :: es) t) (hn : x ≠ "__name__" := by decide) (hdb : (x == ("__debug__" : Str)) = false := by decide)
    (he : starEach (e :: es) X.env = (false, eval e X.env) :: starEach es X.env := by rfl) (hpl : (backTo pos (starEach es X.env)).any (·.1) = false := by rfl) : PE X (.Call (.Name x p) (e :: es) [] pos) (tCB r t) := by
  intro pins s σ H Q I h
  refine wpAny_Call_Name_kw (ld_blt I hg hm hv ?_ hn hdb)
  exact PyProof.Rows.callWith_builtin1 (thn (ha pos pins s σ H _ I h) fun us s1 ⟨vs, H1, I1, r1, q1⟩ => hc pins s1 σ H1 vs us Q I1 r1 q1) he hpl
theorem pe_callTy (hc : CallR X (.type T) r) (hg : Gl X x) (hm : X.mg x = none) (hv : bootBuiltins x = some (.type T)) (ha : PA X (e :: es) t) (hn : x ≠ "__name__" := by decide) (hdb : (x == ("__debug__" : Str)) = false := by decide)
    (he : starEach (e :: es) X.env = (false, eval e X.env) :: starEach es X.env := by rfl) (hpl : (backTo pos (starEach es X.env)).any (·.1) = false := by rfl) : PE X (.Call (.Name x p) (e :: es) [] pos) (tCB r t) := by
  intro pins s σ H Q I h
  refine wpAny_Call_Name_kw (ld_blt I hg hm hv ?_ hn hdb)
  exact PyProof.Rows.callWith_type1 (thn (ha pos pins s σ H _ I h) fun us s1 ⟨vs, H1, I1, r1, q1⟩ => hc pins s1 σ H1 vs us Q I1 r1 q1) he hpl
end
end L2
namespace HT
open PySem PyProof.Rows
section
open PySem.SeqAt
open PySem.AutoSeq1 (wpAny_loadPart')
open PySem.MeetsSeq PySem.MeetsSeq2 PySem.MeetsSeq3
end
section
variable {prog : Program} {w : World} {A : Around} {E : Value → Shared → Prop} {s : Shared}
theorem cat_tup {t b : Addr} {vs ws : List Value} {Q : Value → Shared → Prop} (ht : IsTup s.heap t vs.toArray) (hb : IsTup s.heap b ws.toArray) (hv : vs ≠ [])
    (h1 : ws = [] → Q (.ref t) s) (h2 : ws ≠ [] → Q (.ref s.heap.objs.size) { s with heap := s.heap.push { cls := .type "tuple", data := .seq (vs ++ ws).toArray } })
    (hsz : vs.length + ws.length ≤ sizeLine) : wpAny (model prog w) A (binaryOp .Add (.ref t) (.ref b)) Q E s := by
  obtain ⟨⟨cls, dd, data, sl⟩, ho, hc, n, hd⟩ := id ht
  obtain ⟨⟨cls2, dd2, data2, sl2⟩, ho2, hc2, n2, hd2⟩ := id hb
  simp only at hc hd hc2 hd2
  subst hc hd hc2 hd2
  have e : vs.toArray ++ ws.toArray = (vs ++ ws).toArray := by simp
  by_cases hw : ws = []
  · exact concat_meets ⟨_, ho, rfl⟩ ⟨_, ho2, rfl⟩ noFill_tuple_add seq_tuple_add PySem.F.slot_tuple_add PySem.F.entry_tuple_add (PySem.F.args_tuple_add_2 _ _)
      (tuple_addW1 t b vs.toArray ws.toArray n n2 dd dd2 sl sl2 (by simpa using hv) (by simp [hw])) ⟨ho, ho2, h1 hw⟩
  · refine concat_meets ⟨_, ho, rfl⟩ ⟨_, ho2, rfl⟩ noFill_tuple_add seq_tuple_add PySem.F.slot_tuple_add PySem.F.entry_tuple_add (PySem.F.args_tuple_add_2 _ _)
      (tuple_addW2 t b vs.toArray ws.toArray n n2 dd dd2 sl sl2 (by simpa using hv) (by simpa using hw) (by rw [List.size_toArray, List.size_toArray]; exact hsz)) ⟨ho, ho2, ?_⟩
    rw [e]
    exact h2 hw
def sIx (n d : Nat) : Option Int → Nat
  | none => d
  | some v => if v < 0 then (v + (n : Int)).toNat else min v.toNat n
theorem sIx_none (n d : Nat) : sIx n d none = d := rfl
theorem sIx_nat (n d k : Nat) : sIx n d (some (k : Int)) = min k n := by
  show (if (k : Int) < 0 then ((k : Int) + (n : Int)).toNat else min (k : Int).toNat n) = min k n
  rw [if_neg (by omega), Int.toNat_natCast]
theorem sIx_le (n d : Nat) (hd : d ≤ n) (o : Option Int) : sIx n d o ≤ n := by
  cases o with
  | none => exact hd
  | some v =>
    show (if v < 0 then (v + (n : Int)).toNat else min v.toNat n) ≤ n
    by_cases hv : v < 0
    · rw [if_pos hv]; omega
    · rw [if_neg hv]; exact Nat.min_le_right _ _
theorem clip_eq (v : Int) (n d : Nat) : (if v < 0 then max (v + (n : Int)) 0 else min v (n : Int)) = ((sIx n d (some v) : Nat) : Int) := by
  show (if v < 0 then max (v + (n : Int)) 0 else min v (n : Int)) = (((if v < 0 then (v + (n : Int)).toNat else min v.toNat n) : Nat) : Int)
  by_cases hv : v < 0
  · simp only [if_pos hv]; omega
  · simp only [if_neg hv]; omega
theorem adjust_gen (lo hi : Option Int) (n : Nat) : Builtin.Slice.sliceAdjust lo hi 1 (n : Int) = (((sIx n 0 lo : Nat) : Int), ((sIx n n hi : Nat) : Int)) := by
  have h1 : ¬ ((1 : Int) < 0) := by omega
  unfold Builtin.Slice.sliceAdjust
  simp only [h1, if_false]
  refine Prod.ext ?_ ?_
  · cases lo with
    | none => rfl
    | some v => exact clip_eq v n 0
  · cases hi with
    | none => rfl
    | some v => exact clip_eq v n n
theorem places_gen (i j : Nat) : Builtin.Slice.slicePlaces (i : Int) (j : Int) 1 = j - i := by
  unfold Builtin.Slice.slicePlaces
  have h1 : (1 : Int) > 0 := by omega
  simp only [h1, if_true, Int.ediv_one]
  split <;> omega
theorem slicePart_ {v : Value} {o : Option Int} {Q : Option Int → Shared → Prop} (p : IsPart v o) (h : Q o s) : wpAny (model prog w) A (Builtin.Slice.slicePartIndex v) Q E s := by
  cases p with
  | none => exact slicePart_none h
  | int i t => exact slicePart_int h
theorem sliceApplied_gen {sl : Addr} {vl vu : Value} {lo hi : Option Int} {n : Nat} {Q : Int × Int × Nat → Shared → Prop} (hs : s.heap.IsSliceOf sl vl vu .none) (pl : IsPart vl lo) (pu : IsPart vu hi)
    (h : Q (((sIx n 0 lo : Nat) : Int), 1, sIx n n hi - sIx n 0 lo) s) : wpAny (model prog w) A (Builtin.Slice.sliceApplied (.ref sl) (pure (n : Int))) Q E s := by
  obtain ⟨os, hos, hcs, hds⟩ := id hs
  unfold Builtin.Slice.sliceApplied Builtin.Slice.sliceFields
  refine wpAny_bind (wpAny_bind (wpAny_field hos hds (x := vl) rfl (wpAny_bind (wpAny_field hos hds (x := vu) rfl (wpAny_bind (wpAny_field hos hds (x := .none) rfl (wpAny_pure ?_)))))))
  refine wpAny_bind (slicePart_none ?_)
  show wpAny _ _ (if ((1 : Int) == 0) = true then _ else _) _ _ s
  rw [if_neg (by decide)]
  refine wpAny_bind (slicePart_ pl (wpAny_bind (slicePart_ pu (wpAny_bind (wpAny_pure ?_)))))
  show wpAny _ _ (match Builtin.Slice.sliceAdjust lo hi 1 (n : Int) with | (lo, hi) => pure (lo, (1 : Int), Builtin.Slice.slicePlaces lo hi 1)) _ _ s
  rw [adjust_gen lo hi n]
  show wpAny _ _ (pure (((sIx n 0 lo : Nat) : Int), (1 : Int), Builtin.Slice.slicePlaces ((sIx n 0 lo : Nat) : Int) ((sIx n n hi : Nat) : Int) 1)) _ _ s
  rw [places_gen]
  exact wpAny_pure h
theorem pick_gen (xs : Array Value) (i k : Nat) : ((List.range k).filterMap fun (m : Nat) => xs[((i : Int) + (m : Int) * 1).toNat]?).toArray = ((xs.toList.drop i).take k).toArray := by
  have e : (fun (m : Nat) => xs[((i : Int) + (m : Int) * 1).toNat]?) = fun m => xs[i + m]? := by
    funext m
    have : ((i : Int) + (m : Int) * 1).toNat = i + m := by omega
    rw [this]
  rw [e]
  have := pick_run xs i k
  rw [List.filterMap_map] at this
  have e2 : ((fun x => xs[x]?) ∘ fun x => i + x) = fun m => xs[i + m]? := rfl
  rw [e2] at this
  rw [this]
theorem getItem_tuple_cut {t sl : Addr} {items : Array Value} {vl vu : Value} {lo hi : Option Int} {Q : Value → Shared → Prop} (ht : IsTup s.heap t items) (hs : s.heap.IsSliceOf sl vl vu .none) (pl : IsPart vl lo) (pu : IsPart vu hi)
    (hw : ¬ (sIx items.size 0 lo = 0 ∧ sIx items.size items.size hi = items.size))
    (h : Q (.ref s.heap.objs.size) { s with heap := s.heap.push { cls := .type "tuple", data := .seq ((items.toList.drop (sIx items.size 0 lo)).take (sIx items.size items.size hi - sIx items.size 0 lo)).toArray } })
    (hsz : items.size ≤ sizeLine) : wpAny (model prog w) A (getItem (.ref t) (.ref sl)) Q E s := by
  have htake : sizeOk (.seq ((items.toList.drop (sIx items.size 0 lo)).take (sIx items.size items.size hi - sIx items.size 0 lo)).toArray) := by
    show ((items.toList.drop (sIx items.size 0 lo)).take (sIx items.size items.size hi - sIx items.size 0 lo)).toArray.size ≤ sizeLine
    rw [List.size_toArray, List.length_take, List.length_drop, Array.length_toList]
    omega
  have hj : sIx items.size items.size hi ≤ items.size := sIx_le _ _ (Nat.le_refl _) hi
  obtain ⟨os, hos, hcs, hds⟩ := id hs
  have hTs : s.TypeIs (.ref sl) "slice" := ⟨os, hos, hcs⟩
  unfold getItem
  try with_reducible refine wpAny_holding ?_
  first | refine wpAny_bind (wpAny_pure ?_) | skip
  refine wpAny_bind (wpAny_sequenceKey ht.typeIs (by decide) ?_)
  refine wpAny_bind (wpAny_callSpecial?_slot (name := Str.ofString "__getitem__") ht.typeIs PyProof.Rows.slot_tuple_getitem
    (wpAny_call_entry PyProof.Rows.slot_tuple_getitem ht.typeIs entry_tuple_getitem ?_ (args_tuple_getitem _ _)))
  show wpAny _ _ (Builtin.Tuple.tupleItemsOf (.ref t) >>= _) _ _ s
  refine wpAny_bind (tupleItemsOf_ ht ?_)
  refine wpAny_bind (wpAny_typeOf hTs ?_)
  rw [if_pos (by decide)]
  refine wpAny_bind (sliceApplied_gen hs pl pu ?_)
  have hno : ¬ ((((sIx items.size 0 lo : Nat) : Int) == 0 && (1 : Int) == 1 && (sIx items.size items.size hi - sIx items.size 0 lo) == items.size) = true) := by
    intro q
    rw [Bool.and_eq_true, Bool.and_eq_true] at q
    have q1 : ((sIx items.size 0 lo : Nat) : Int) = 0 := eq_of_beq q.1.1
    have q2 : sIx items.size items.size hi - sIx items.size 0 lo = items.size := eq_of_beq q.2
    exact hw ⟨by omega, by omega⟩
  show wpAny _ _ (if (((sIx items.size 0 lo : Nat) : Int) == 0 && (1 : Int) == 1 && (sIx items.size items.size hi - sIx items.size 0 lo) == items.size) = true then _ else _) _ _ s
  rw [if_neg hno, pick_gen]
  first
    | exact wpAny_bind (m := Builtin.Tuple.tupleExact _) (wpAny_newObj_type (wpAny_pure ⟨_, rfl, wpAny_pure h⟩) htake)
    | exact wpAny_bind (m := Builtin.Tuple.tupleExact _) (wpAny_newObj_type (wpAny_bind (wpAny_pure (wpAny_pure ⟨_, rfl, wpAny_pure h⟩))) htake)
    | exact wpAny_bind (wpAny_bind (m := Builtin.Tuple.tupleExact _) (wpAny_newObj_type (wpAny_pure (wpAny_pure ⟨_, rfl, wpAny_pure h⟩)) htake))
    | exact wpAny_bind (wpAny_bind (m := Builtin.Tuple.tupleExact _) (wpAny_newObj_type (wpAny_pure ⟨_, rfl, wpAny_pure h⟩) htake))
end
end HT
namespace L2
open PySem PySem.Spec PyProof.Rows
abbrev TO := St → Hp → (Option Int → Hp → Prop) → Prop
def PO (X : Cx) (e : Option Expr) (t : TO) : Prop :=
  ∀ (pins : List (Addr × Obj)) (s : Shared) (σ : St) (H : Hp) (Q : Option Int → Hp → Prop), Inv X pins σ H s → t σ H Q →
    wpAny (model X.prog X.w) X.A (evalPart e X.env) (fun u s' => ∃ o H', Inv X pins σ H' s' ∧ IsPart u o ∧ Q o H') X.xe s
def tNoPart : TO := fun _ H Q => Q none H
def tPart (t : TE) : TO := fun σ H Q => t σ H fun x H1 => ∃ i, x = .int i ∧ Q (some i) H1
theorem intsAre_of {ns : List Int} : ∀ {us : List Value}, Vals (ns.map V.int) us → IntsAre us ns := by
  induction ns with
  | nil => intro us r; rw [List.map_nil] at r; cases r; exact .nil
  | cons n ns ih =>
    intro us r
    rw [List.map_cons] at r
    cases r with
    | cons r1 r2 =>
      obtain ⟨t, e⟩ := r1
      subst e
      exact .cons n t (ih r2)
section
variable {X : Cx} {e : Expr} {te : TE} {lo hi : Option Expr} {tl th : TO} {pos p2 : Pos}
theorem po_none : PO X none tNoPart := by
  intro pins s σ H Q I h
  rw [evalPart_none]
  exact wpAny_pure ⟨none, H, I, .none, h⟩
theorem po_some (h : PE X e te) : PO X (some e) (tPart te) := by
  intro pins s σ H Q I hw
  rw [evalPart_some]
  refine thn (h pins s σ H _ I hw) fun u s1 ⟨x, H1, I1, r1, q1⟩ => ?_
  obtain ⟨i, rfl, q⟩ := q1
  obtain ⟨t, rfl⟩ := r1
  exact ⟨some i, H1, I1, .int i t, q⟩
def SlR (X : Cx) (r : V → Option Int → Option Int → Hp → VK → Prop) : Prop :=
  ∀ (pins : List (Addr × Obj)) (s : Shared) (σ : St) (H : Hp) (x : V) (v vl vu : Value) (lo hi : Option Int) (sl : Addr) (Q : VK), Inv X pins σ H s → RelV x v → s.heap.IsSliceOf sl vl vu .none → IsPart vl lo → IsPart vu hi → r x lo hi H Q →
    ∃ T id, typeLookup (.type T) "__getitem__" = pure (some (.builtin id)) ∧ s.TypeIs v T ∧ wpAny (model X.prog X.w) X.A (getItem v (.ref sl)) (EP X pins σ Q) X.xe s
def tSl (r : V → Option Int → Option Int → Hp → VK → Prop) (te : TE) (tl th : TO) : TE := fun σ H Q => te σ H fun x H1 => tl σ H1 fun l H2 => th σ H2 fun u H3 => r x l u H3 Q
theorem pe_slice {r : V → Option Int → Option Int → Hp → VK → Prop} (hr : SlR X r) (he : PE X e te) (hl : PO X lo tl) (hu : PO X hi th) : PE X (.Subscript e (.Slice lo hi none p2) pos) (tSl r te tl th) := by
  intro pins s σ H Q I h
  refine Subscript_ (thn (he pins s σ H _ I h) fun v s1 ⟨x, H1, I1, r1, q1⟩ => ?_)
  refine wpAny_Slice (thn (hl pins s1 σ H1 _ I1 q1) fun vl s2 ⟨l, H2, I2, pl, q2⟩ => thn (hu pins s2 σ H2 _ I2 q2) fun vu s3 ⟨u, H3, I3, pu, q3⟩ => ?_)
  rw [evalPart_none]
  refine wpAny_pure ?_
  have I4 : Inv X pins σ H3 { s3 with heap := s3.heap.push { cls := .type "slice", data := .fields #[vl, vu, .none] } } := I3.kept (t' := s3.toks) fun b ob q => Heap.get?_push_of_some _ q
  obtain ⟨T, id, hT, ht, hg⟩ := hr pins { s3 with heap := s3.heap.push { cls := .type "slice", data := .fields #[vl, vu, .none] } } σ H3 x v vl vu l u s3.heap.objs.size Q I4 r1 (Heap.IsSliceOf.new ..) pl pu q3
  show wpAny (model X.prog X.w) X.A (subscriptTail e (.Slice lo hi none p2) v (.ref s3.heap.objs.size)) (EP X pins σ Q) X.xe { s3 with heap := s3.heap.push { cls := .type "slice", data := .fields #[vl, vu, .none] } }
  exact tail_any (ops := [.ref s3.heap.objs.size, v]) ht hT hg (by with_unfolding_all rfl)
def cutV (xs : List V) (lo hi : Option Int) : List V := (xs.drop (HT.sIx xs.length 0 lo)).take (HT.sIx xs.length xs.length hi - HT.sIx xs.length 0 lo)
theorem cutV_length (xs : List V) (lo hi : Option Int) : (cutV xs lo hi).length ≤ xs.length := by
  unfold cutV
  rw [List.length_take, List.length_drop]
  omega
def rSlT (K : PySem.W.Frag) : V → Option Int → Option Int → Hp → VK → Prop := fun x lo hi H Q => ∃ a xs, x = .ref a ∧ SqT K H a xs ∧
  ¬ (HT.sIx xs.length 0 lo = 0 ∧ HT.sIx xs.length xs.length hi = xs.length) ∧ ∀ p, H p = none → Q (.ref p) (upd H p (.tup (cutV xs lo hi)))
theorem sl_tup : SlR X (rSlT X.K) := by
  intro pins s σ H x v vl vu lo hi sl Q I rx hs pl pu h
  obtain ⟨a, xs, rfl, hx, hw, q⟩ := h
  cases rx
  obtain ⟨its, r, ht, hz⟩ := I.tuple hx
  have hlen : its.toArray.size = xs.length := by rw [List.size_toArray]; exact r.length.symm
  refine ⟨"tuple", _, PyProof.Rows.slot_tuple_getitem.lookup, ht.typeIs, ?_⟩
  refine HT.getItem_tuple_cut ht hs pl pu (by rw [hlen]; exact hw) ?_ (by rw [hlen]; exact hz)
  rw [hlen]
  refine ⟨.ref s.heap.objs.size, _, I.laid (t' := s.toks) (o := .tup (cutV xs lo hi)) (fun b ob q => Heap.get?_push_of_some _ q) (Nat.le_refl _) ?_, rfl, q _ (I.hok.fresh (Nat.le_refl _))⟩
  exact ⟨Nat.le_trans (cutV_length xs lo hi) hz, _, (r.drop (HT.sIx xs.length 0 lo)).take (HT.sIx xs.length xs.length hi - HT.sIx xs.length 0 lo), IsTup.new _ _⟩
def rCatT (K : PySem.W.Frag) : R2 := fun x y H Q => ∃ a b xs ys, x = .ref a ∧ y = .ref b ∧ SqT K H a xs ∧ SqT K H b ys ∧ xs ≠ [] ∧ xs.length + ys.length ≤ sizeLine ∧
  (ys = [] → Q (.ref a) H) ∧ (ys ≠ [] → ∀ p, H p = none → Q (.ref p) (upd H p (.tup (xs ++ ys))))
theorem Vals.nil_iff {xs : List V} {us : List Value} (r : Vals xs us) : us = [] ↔ xs = [] := by
  cases r with
  | nil => simp
  | cons _ _ => simp
theorem op_catT : OpR X (binaryOp .Add) (rCatT X.K) := by
  intro pins s σ H x y v u Q I rx ry h
  obtain ⟨a, b, xs, ys, rfl, rfl, ha, hb, hx, hz, q1, q2⟩ := h
  cases rx
  cases ry
  obtain ⟨its, r1, p1, _⟩ := I.tuple ha
  obtain ⟨its2, r2, p2, _⟩ := I.tuple hb
  refine HT.cat_tup p1 p2 (fun z => hx (r1.nil_iff.mp z)) (fun z => ⟨.ref a, H, I, rfl, q1 (r2.nil_iff.mp z)⟩) (fun z => ?_) (by rw [← r1.length, ← r2.length]; exact hz)
  refine ⟨.ref s.heap.objs.size, _, I.laid (t' := s.toks) (o := .tup (xs ++ ys)) (fun b ob q => Heap.get?_push_of_some _ q) (Nat.le_refl _) ?_, rfl, q2 (fun w => z (r2.nil_iff.mpr w)) _ (I.hok.fresh (Nat.le_refl _))⟩
  exact ⟨by rw [List.length_append]; exact hz, _, r1.append r2, IsTup.new _ _⟩
end
end L2
namespace L2
open PySem PySem.Spec PyProof.Rows
def ixN (n : Nat) (i : Int) : Option Nat := if 0 ≤ i then (if i < n then some i.toNat else none) else if -(n : Int) ≤ i then some (i + n).toNat else none
def atI {α : Type} (xs : List α) (i : Int) : Option α := (ixN xs.length i).bind fun j => xs[j]?
theorem ixN_seq {n : Nat} {i : Int} {j : Nat} (h : ixN n i = some j) : seqIndex? i n = some j ∧ j < n ∧ -(n : Int) ≤ i ∧ i < n := by
  unfold ixN at h
  by_cases h0 : 0 ≤ i
  · rw [if_pos h0] at h
    by_cases h1 : i < n
    · rw [if_pos h1] at h
      have e : i.toNat = j := Option.some.inj h
      exact ⟨by rw [seqIndex_of h0 h1, e], by omega, by omega, h1⟩
    · rw [if_neg h1] at h; cases h
  · rw [if_neg h0] at h
    by_cases h1 : -(n : Int) ≤ i
    · rw [if_pos h1] at h
      have e : (i + n).toNat = j := Option.some.inj h
      exact ⟨by rw [seqIndex_neg (by omega) h1, e], by omega, h1, by omega⟩
    · rw [if_neg h1] at h; cases h
theorem atI_get {α : Type} {xs : List α} {i : Int} {v : α} (h : atI xs i = some v) : ∃ j, seqIndex? i xs.length = some j ∧ xs[j]? = some v ∧ j < xs.length ∧ -(xs.length : Int) ≤ i ∧ i < xs.length := by
  unfold atI at h
  cases e : ixN xs.length i with
  | none => rw [e] at h; cases h
  | some j =>
    rw [e] at h
    obtain ⟨h1, h2, h3, h4⟩ := ixN_seq e
    exact ⟨j, h1, h, h2, h3, h4⟩
theorem atI_nat {α : Type} {xs : List α} {j : Nat} {v : α} (h : xs[j]? = some v) : atI xs (j : Int) = some v := by
  have hj : j < xs.length := (List.getElem?_eq_some_iff.mp h).1
  have e : ixN xs.length (j : Int) = some j := by
    unfold ixN
    rw [if_pos (by omega), if_pos (by omega)]; simp
  unfold atI; rw [e]; exact h
theorem atI_last {α : Type} (xs : List α) (v : α) : atI (xs ++ [v]) (-1) = some v := by
  have hl : (xs ++ [v]).length = xs.length + 1 := by simp
  have e : ixN (xs ++ [v]).length (-1) = some xs.length := by
    unfold ixN
    rw [hl, if_neg (by decide), if_pos (by omega)]
    congr 1
    omega
  unfold atI
  rw [e]
  show (xs ++ [v])[xs.length]? = some v
  simp
def PlainIx (b : Expr) : Prop := ∀ o i, subscripted b false o i = operate [o, i] (getItem o i)
def IxR (X : Cx) (r : R2) : Prop :=
  ∀ (value slice : Expr) (pins : List (Addr × Obj)) (s : Shared) (σ : St) (H : Hp) (x y : V) (v u : Value) (Q : VK), Inv X pins σ H s → RelV x v → RelV y u → r x y H Q →
    subscripted slice false v u = operate [v, u] (getItem v u) → wpAny (model X.prog X.w) X.A (subscriptTail value slice v u) (EP X pins σ Q) X.xe s
def MtR (X : Cx) (id : String) (r : V → List V → Hp → VK → Prop) : Prop :=
  ∀ (pins : List (Addr × Obj)) (s : Shared) (σ : St) (H : Hp) (x : V) (xs : List V) (v : Value) (us : List Value) (Q : VK), Inv X pins σ H s → RelV x v → Vals xs us → r x xs H Q →
    wpAny (model X.prog X.w) X.A (call (.builtin id) (v :: us)) (EP X pins σ Q) X.xe s
section
variable {X : Cx} {a b : Expr} {ta tb : TE} {pos : Pos}
theorem pe_ix {r : R2} (hr : IxR X r) (ha : PE X a ta) (hb : PE X b tb) (hs : PlainIx b) : PE X (.Subscript a b pos) (tOp r ta tb) := by
  intro pins s σ H Q I h
  exact Subscript_ (binT ha hb I h fun v u s2 x y H2 I2 rx ry q => hr a b pins s2 σ H2 x y v u Q I2 rx ry q (hs _ _))
def rIxL (K : PySem.W.Frag) : R2 := fun x y H Q => ∃ p xs i v, x = .ref p ∧ y = .int i ∧ SqL K H p xs ∧ atI xs i = some v ∧ Q v H
def rIxT (K : PySem.W.Frag) : R2 := fun x y H Q => ∃ p xs i v, x = .ref p ∧ y = .int i ∧ SqT K H p xs ∧ atI xs i = some v ∧ Q v H
def rIxS : R2 := fun x y H Q => ∃ z i c, x = .str z ∧ y = .int i ∧ z.length ≤ sizeLine ∧ atI z.cps.toList i = some c ∧ Q (.str ⟨#[c]⟩) H
theorem ix_list : IxR X (rIxL X.K) := by
  intro value slice pins s σ H x y v u Q I rx ry h hs
  obtain ⟨p, xs, i, z, rfl, rfl, hq, he, q⟩ := h
  cases rx
  obtain ⟨t, rfl⟩ := ry
  obtain ⟨its, r, pl, hz⟩ := I.list hq
  obtain ⟨j, h1, h2, h3, h4, h5⟩ := atI_get he
  obtain ⟨w, ew, rw'⟩ := r.get h2
  have hl := r.length
  have hn := line63
  have fin : EP X pins σ Q w s := ⟨z, H, I, rw', q⟩
  by_cases h0 : 0 ≤ i
  · have hj : i.toNat = j := by
      rw [seqIndex_of h0 h5] at h1
      exact Option.some.inj h1
    exact item_listR pl.isList h0 (by omega) (by rw [hj]; simpa using ew) fin hs
  · have hj : (i + (its.toArray.size : Int)).toNat = j := by
      rw [seqIndex_neg (by omega) h4] at h1
      rw [List.size_toArray, ← hl]
      exact Option.some.inj h1
    exact subscriptTail_builtinR (x := w) pl.isList.typeIs slot_list_getitem.lookup
      (wpAny_getItem_list_neg (Q := fun r s' => r = w ∧ EP X pins σ Q r s') pl.isList (by omega) (by rw [List.size_toArray] <;> omega) (by omega) (by rw [hj]; simpa using ew) ⟨rfl, fin⟩) hs
theorem ix_tup : IxR X (rIxT X.K) := by
  intro value slice pins s σ H x y v u Q I rx ry h hs
  obtain ⟨p, xs, i, z, rfl, rfl, hq, he, q⟩ := h
  cases rx
  obtain ⟨t, rfl⟩ := ry
  obtain ⟨its, r, pl, hz⟩ := I.tuple hq
  obtain ⟨j, h1, h2, h3, h4, h5⟩ := atI_get he
  obtain ⟨w, ew, rw'⟩ := r.get h2
  have hl := r.length
  have hn := line63
  have fin : EP X pins σ Q w s := ⟨z, H, I, rw', q⟩
  exact subscriptTail_builtinR (x := w) pl.typeIs slot_tuple_getitem.lookup
    (getItem_tuple (j := j) (Q := fun r s' => r = w ∧ EP X pins σ Q r s') pl (by omega) (by omega) (by rw [List.size_toArray, ← hl]; exact h1) (by simpa using ew) ⟨rfl, fin⟩) hs
theorem ix_str : IxR X rIxS := by
  intro value slice pins s σ H x y v u Q I rx ry h hs
  obtain ⟨z, i, c, rfl, rfl, hz, he, q⟩ := h
  obtain ⟨t, rfl⟩ := rx
  obtain ⟨t', rfl⟩ := ry
  obtain ⟨j, h1, h2, h3, h4, h5⟩ := atI_get he
  have hl : z.cps.toList.length = z.length := by simp [Str.length]
  rw [hl] at h1 h4 h5
  have hn := line63
  exact tail_any (typeIs_str s z t) slot_str_getitem.lookup (getItem_str (c := c) (by
    have e1 : decide (i < -(2 ^ 63 : Int)) = false := decide_eq_false (by omega)
    have e2 : decide (i ≥ 2 ^ 63) = false := decide_eq_false (by omega)
    rw [e1, e2, Bool.or_false]) (by rw [h1]; simpa using h2) ⟨.str ⟨#[c]⟩, H, I.tok _, ⟨_, rfl⟩, q⟩) hs
theorem slice_bounds (lo hi : Option Int) (n : Nat) : (sliceBounds lo hi none n).1 = ((HT.sIx n 0 lo : Nat) : Int) ∧ (sliceBounds lo hi none n).2.1 = ((HT.sIx n n hi : Nat) : Int) ∧ (sliceBounds lo hi none n).2.2 = 1 := by
  refine ⟨?_, ?_, rfl⟩
  · cases lo with
    | none => simp [sliceBounds, HT.sIx]
    | some i =>
      simp only [sliceBounds, HT.sIx, Option.getD_none, show (1 : Int) > 0 by decide, if_true]
      by_cases h : i < 0
      · simp only [h, if_true] <;> omega
      · simp only [h, if_false] <;> omega
  · cases hi with
    | none => simp [sliceBounds, HT.sIx]
    | some i =>
      simp only [sliceBounds, HT.sIx, Option.getD_none, show (1 : Int) > 0 by decide, if_true]
      by_cases h : i < 0
      · simp only [h, if_true] <;> omega
      · simp only [h, if_false] <;> omega
theorem slicePick_cut (its : List Value) (lo hi : Option Int) : slicePick its.toArray lo hi none = ((its.drop (HT.sIx its.length 0 lo)).take (HT.sIx its.length its.length hi - HT.sIx its.length 0 lo)).toArray := by
  obtain ⟨h1, h2, h3⟩ := slice_bounds lo hi its.toArray.size
  unfold slicePick
  rw [h1, h2, h3]
  simp only [sliceRange_one, pick_run, List.size_toArray] <;> rfl
def rSlL (K : PySem.W.Frag) : V → Option Int → Option Int → Hp → VK → Prop := fun x lo hi H Q => ∃ a xs, x = .ref a ∧ SqL K H a xs ∧ ∀ p, H p = none → Q (.ref p) (upd H p (.lst (cutV xs lo hi)))
theorem sl_list : SlR X (rSlL X.K) := by
  intro pins s σ H x v vl vu lo hi sl Q I rx hs pl pu h
  obtain ⟨a, xs, rfl, hx, q⟩ := h
  cases rx
  obtain ⟨its, r, ht, hz⟩ := I.list hx
  have hlen := r.length
  refine ⟨"list", _, slot_list_getitem.lookup, ht.isList.typeIs, ?_⟩
  refine wpAny_getItem_list_slice ht.isList hs pl pu .none (by simp) ?_ (by rw [List.size_toArray] <;> omega)
  rw [slicePick_cut, ← hlen]
  refine ⟨.ref s.heap.objs.size, _, I.laid (t' := s.toks) (o := .lst (cutV xs lo hi)) (fun b ob q => Heap.get?_push_of_some _ q) (Nat.le_refl _) ?_, rfl, q _ (I.hok.fresh (Nat.le_refl _))⟩
  exact ⟨Nat.le_trans (cutV_length xs lo hi) hz, _, 0, (r.drop (HT.sIx xs.length 0 lo)).take (HT.sIx xs.length xs.length hi - HT.sIx xs.length 0 lo), Heap.get?_push_size _ rfl⟩
def flatV : V → Bool
  | .non => true
  | .bl _ => true
  | .int _ => true
  | .str _ => true
  | _ => false
def eqV : V → V → Bool
  | .non, .non => true
  | .bl a, .bl b => a == b
  | .bl a, .int b => (if a then 1 else 0) == b
  | .int a, .bl b => a == (if b then 1 else 0)
  | .int a, .int b => a == b
  | .str a, .str b => a == b
  | _, _ => false
theorem eqAt_V {A : Around} {s : Shared} {y x : V} {u v : Value} (ry : RelV y u) (rx : RelV x v) (fy : flatV y = true) (fx : flatV x = true) : SeqAt.EqAt A s u v (eqV y x) := by
  cases y with
  | non =>
    cases ry
    cases x with
    | non => cases rx; exact SeqAt.EqAt.same _
    | bl b => cases rx; exact SeqAt.EqAt.none_bool b
    | int b => obtain ⟨t, rfl⟩ := rx; exact SeqAt.EqAt.none_int b t
    | str b => obtain ⟨t, rfl⟩ := rx; exact SeqAt.EqAt.none_str b t
    | _ => exact absurd (show false = true from fx) Bool.false_ne_true
  | bl a =>
    cases ry
    cases x with
    | non => cases rx; exact SeqAt.EqAt.bool_none a
    | bl b => cases rx; exact SeqAt.EqAt.bool_bool a b
    | int b => obtain ⟨t, rfl⟩ := rx; exact SeqAt.EqAt.bool_int a b t
    | str b => obtain ⟨t, rfl⟩ := rx; exact SeqAt.EqAt.bool_str a b t
    | _ => exact absurd (show false = true from fx) Bool.false_ne_true
  | int a =>
    obtain ⟨t', rfl⟩ := ry
    cases x with
    | non => cases rx; exact SeqAt.EqAt.int_none a t'
    | bl b => cases rx; exact SeqAt.EqAt.int_bool a t' b
    | int b => obtain ⟨t, rfl⟩ := rx; exact SeqAt.EqAt.int_int a t' b t
    | str b => obtain ⟨t, rfl⟩ := rx; exact SeqAt.EqAt.int_str a t' b t
    | _ => exact absurd (show false = true from fx) Bool.false_ne_true
  | str a =>
    obtain ⟨t', rfl⟩ := ry
    cases x with
    | non => cases rx; exact SeqAt.EqAt.str_none a t'
    | bl b => cases rx; exact SeqAt.EqAt.str_bool a t' b
    | int b => obtain ⟨t, rfl⟩ := rx; exact SeqAt.EqAt.str_int a t' b t
    | str b => obtain ⟨t, rfl⟩ := rx; exact SeqAt.EqAt.str_str a t' b t
    | _ => exact absurd (show false = true from fx) Bool.false_ne_true
  | _ => exact absurd (show false = true from fy) Bool.false_ne_true
def eqU (x : V) (u : Value) : Bool := match u with
  | .none => eqV .non x
  | .bool b => eqV (.bl b) x
  | .int i _ => eqV (.int i) x
  | .str z _ => eqV (.str z) x
  | _ => false
theorem eqU_of {x y : V} {u : Value} (r : RelV y u) (f : flatV y = true) : eqU x u = eqV y x := by
  cases y with
  | non => cases r; rfl
  | bl b => cases r; rfl
  | int i => obtain ⟨t, rfl⟩ := r; rfl
  | str z => obtain ⟨t, rfl⟩ := r; rfl
  | _ => exact absurd (show false = true from f) Bool.false_ne_true
theorem any_eqU {x : V} : ∀ {xs : List V} {us : List Value}, Vals xs us → xs.all flatV = true → us.any (eqU x) = xs.any fun y => eqV y x
  | _, _, .nil, _ => rfl
  | y :: xs, u :: us, .cons r t, f => by
    rw [List.all_cons, Bool.and_eq_true] at f
    rw [List.any_cons, List.any_cons, eqU_of r f.1, any_eqU t f.2]
theorem mem_eqAt {A : Around} {s : Shared} {x : V} {v : Value} (rx : RelV x v) (fx : flatV x = true) : ∀ {xs : List V} {us : List Value}, Vals xs us → xs.all flatV = true → ∀ u ∈ us, SeqAt.EqAt A s u v (eqU x u)
  | _, _, .nil, _ => fun u hu => by cases hu
  | y :: xs, u :: us, .cons r t, f => fun u' hu => by
    rw [List.all_cons, Bool.and_eq_true] at f
    rcases List.mem_cons.mp hu with rfl | hu
    · rw [eqU_of r f.1]; exact eqAt_V r rx f.1 fx
    · exact mem_eqAt rx fx t f.2 u' hu
def inV (x : V) (xs : List V) : Bool := xs.any fun y => eqV y x
def rIn (K : PySem.W.Frag) (neg : Bool) : R2 := fun x y H Q => ∃ p xs, y = .ref p ∧ (SqL K H p xs ∨ SqT K H p xs) ∧ flatV x = true ∧ xs.all flatV = true ∧ Q (.bl (if neg then !inV x xs else inV x xs)) H
theorem op_in_seq : OpR X (compareOp .In) (rIn X.K false) := by
  intro pins s σ H x y v u Q I rx ry h
  obtain ⟨p, xs, rfl, hq, fx, fs, q⟩ := h
  cases ry
  rcases hq with hq | hq
  · obtain ⟨its, r, pl, hz⟩ := I.list hq
    refine SeqAt.in_listAt (eqU x) pl.isList (fun w hw => mem_eqAt rx fx r fs w (by simpa using hw)) ⟨.bl _, H, I, rfl, ?_⟩
    rw [show its.toArray.any (eqU x) = its.any (eqU x) by simp, any_eqU r fs]
    exact q
  · obtain ⟨its, r, pl, hz⟩ := I.tuple hq
    refine SeqAt.in_tupleAt (eqU x) pl (fun w hw => mem_eqAt rx fx r fs w (by simpa using hw)) ⟨.bl _, H, I, rfl, ?_⟩
    rw [show its.toArray.any (eqU x) = its.any (eqU x) by simp, any_eqU r fs]
    exact q
theorem op_notIn_seq : OpR X (compareOp .NotIn) (rIn X.K true) := by
  intro pins s σ H x y v u Q I rx ry h
  obtain ⟨p, xs, rfl, hq, fx, fs, q⟩ := h
  cases ry
  rcases hq with hq | hq
  · obtain ⟨its, r, pl, hz⟩ := I.list hq
    refine SeqAt.notIn_listAt (eqU x) pl.isList (fun w hw => mem_eqAt rx fx r fs w (by simpa using hw)) ⟨.bl _, H, I, rfl, ?_⟩
    rw [show its.toArray.any (eqU x) = its.any (eqU x) by simp, any_eqU r fs]
    exact q
  · obtain ⟨its, r, pl, hz⟩ := I.tuple hq
    refine SeqAt.notIn_tupleAt (eqU x) pl (fun w hw => mem_eqAt rx fx r fs w (by simpa using hw)) ⟨.bl _, H, I, rfl, ?_⟩
    rw [show its.toArray.any (eqU x) = its.any (eqU x) by simp, any_eqU r fs]
    exact q
theorem call_len_seq : CallR X (.builtin "len") (fun xs H Q => ∃ p ys, xs = [.ref p] ∧ (SqL X.K H p ys ∨ SqT X.K H p ys) ∧ Q (.int ys.length) H) := by
  intro pins s σ H xs us Q I r h
  obtain ⟨p, ys, rfl, hq, q⟩ := h
  obtain ⟨u, rfl, rx⟩ := vals1 r
  cases rx
  have hn := line63
  rcases hq with hq | hq
  · obtain ⟨its, r', pl, hz⟩ := I.list hq
    have hlen := r'.length
    exact Calls.call_len_list pl.isList (by simp only [List.size_toArray] <;> omega) ⟨.int ys.length, H, I.tok _, ⟨s.toks + 1, by rw [List.size_toArray, hlen]⟩, q⟩
  · obtain ⟨its, r', pl, hz⟩ := I.tuple hq
    have hlen := r'.length
    exact len_tuple pl (by simp only [List.size_toArray] <;> omega) ⟨.int ys.length, H, I.tok _, ⟨s.toks + 1, by rw [List.size_toArray, hlen]⟩, q⟩
theorem call_list_of : CallR X (.type "list") (fun xs H Q => ∃ p ys, xs = [.ref p] ∧ (SqL X.K H p ys ∨ SqT X.K H p ys) ∧ ∀ l, H l = none → Q (.ref l) (upd H l (.lst ys))) := by
  intro pins s σ H xs us Q I r h
  obtain ⟨p, ys, rfl, hq, q⟩ := h
  obtain ⟨u, rfl, rx⟩ := vals1 r
  cases rx
  have fin : ∀ (its : List Value), Vals ys its → ys.length ≤ sizeLine → ∀ (h' : Heap) (c' : Nat), (∀ b o', s.heap.get? b = some o' → h'.get? b = some o') →
      h'.get? s.heap.objs.size = some { cls := .type "list", dict := none, data := .seq its.toArray c', slots := #[] } → EP X pins σ Q (.ref s.heap.objs.size) { s with heap := h' } := fun its r' hz h' c' kp e =>
    ⟨.ref s.heap.objs.size, _, I.laid (t' := s.toks) kp (Nat.le_refl _) (show ObjOk X.prog X.w _ h' _ (.lst ys) from ⟨hz, its, c', r', e⟩), rfl, q _ (I.hok.fresh (Nat.le_refl _))⟩
  rcases hq with hq | hq
  · obtain ⟨its, r', pl, hz⟩ := I.list hq
    have hlen := r'.length
    obtain ⟨o, ho, hc, n, hd⟩ := pl.isList
    exact call_list_seq p (.inl rfl) ho hc hd (fun h' c' kp e => fin its r' hz h' c' kp e) (by simp only [List.size_toArray] <;> omega)
  · obtain ⟨its, r', pl, hz⟩ := I.tuple hq
    have hlen := r'.length
    obtain ⟨o, ho, hc, n, hd⟩ := pl
    exact call_list_seq p (.inr rfl) ho hc hd (fun h' c' kp e => fin its r' hz h' c' kp e) (by simp only [List.size_toArray] <;> omega)
theorem call_tuple_of : CallR X (.type "tuple") (fun xs H Q => ∃ p ys, xs = [.ref p] ∧ ((SqL X.K H p ys ∧ ∀ l, H l = none → Q (.ref l) (upd H l (.tup ys))) ∨ (SqT X.K H p ys ∧ Q (.ref p) H))) := by
  intro pins s σ H xs us Q I r h
  obtain ⟨p, ys, rfl, h⟩ := h
  obtain ⟨u, rfl, rx⟩ := vals1 r
  cases rx
  rcases h with ⟨hq, q⟩ | ⟨hq, q⟩
  · obtain ⟨its, r', pl, hz⟩ := I.list hq
    have hlen := r'.length
    refine call_tuple_list pl.isList (fun h' kp => ?_) (by simp only [List.size_toArray] <;> omega)
    have I1 : Inv X pins σ H { s with heap := h' } := I.kept (t' := s.toks) kp
    have I2 : Inv X pins σ (upd H h'.objs.size (.tup ys)) { s with heap := h'.push { cls := .type "tuple", data := .seq its.toArray } } :=
      I1.laid (t' := s.toks) (fun b o e => Heap.get?_push_of_some _ e) (Nat.le_refl _) (show ObjOk X.prog X.w _ _ _ (.tup ys) from ⟨hz, its, r', IsTup.new _ _⟩)
    exact ⟨.ref h'.objs.size, _, I2, rfl, q _ (I1.hok.fresh (Nat.le_refl _))⟩
  · obtain ⟨its, r', pl, hz⟩ := I.tuple hq
    exact call_tuple_same pl ⟨.ref p, H, I, rfl, q⟩
def tyV (K : PySem.W.Frag) (T : String) (x : V) (H : Hp) : Prop := match x with
  | .str _ => T = "str"
  | .int _ => T = "int"
  | .ref p => (T = "list" ∧ ∃ xs, SqL K H p xs) ∨ (T = "tuple" ∧ ∃ o, K.lookup p = some o ∧ o.cls = .type "tuple" ∧ o.dict = none) ∨
      (T = "dict" ∧ ((∃ kvs, H p = some (.dK kvs)) ∨ ∃ kvs, H p = some (.dT kvs))) ∨ (T = "set" ∧ ∃ S n, H p = some (.set S n))
  | _ => False
theorem tyV_is {pins : List (Addr × Obj)} {σ : St} {H : Hp} {s : Shared} {T : String} {x : V} {v : Value} (I : Inv X pins σ H s) (r : RelV x v) (ty : tyV X.K T x H) :
    s.TypeIs v T ∧ ∀ a, v = .ref a → ∃ ob, s.heap.get? a = some ob ∧ ob.dict = none := by
  cases x with
  | str z =>
    obtain ⟨t, rfl⟩ := r
    cases (show T = "str" from ty)
    exact ⟨typeIs_str s z t, fun _ e => nomatch e⟩
  | int i =>
    obtain ⟨t, rfl⟩ := r
    cases (show T = "int" from ty)
    exact ⟨typeIs_int s i t, fun _ e => nomatch e⟩
  | ref p =>
    cases r
    rcases ty with ⟨rfl, xs, hq⟩ | ⟨rfl, o, hk, hc, hd⟩ | ⟨rfl, hk⟩ | ⟨rfl, S, n, hk⟩
    · obtain ⟨its, _, pl, _⟩ := I.list hq
      refine ⟨pl.isList.typeIs, fun a e => ?_⟩
      cases e
      obtain ⟨o, n, e, c, hd, _⟩ := pl
      exact ⟨o, e, hd⟩
    · refine ⟨⟨o, I.kIn p o hk, hc⟩, fun a e => ?_⟩
      cases e
      exact ⟨o, I.kIn _ o hk, hd⟩
    · have z : ∃ o, s.heap.get? p = some o ∧ o.ExactDict := by
        rcases hk with ⟨kvs, hk⟩ | ⟨kvs, hk⟩
        · obtain ⟨_, _, _, _, o, _, _, e, ex, _⟩ := I.hok p _ hk
          exact ⟨o, e, ex⟩
        · obtain ⟨_, _, _, _, o, _, _, e, ex, _⟩ := I.hok p _ hk
          exact ⟨o, e, ex⟩
      obtain ⟨o, e, ex⟩ := z
      refine ⟨⟨o, e, ex.1⟩, fun a e2 => ?_⟩
      cases e2
      exact ⟨o, e, ex.2.1⟩
    · obtain ⟨o, _, _, _, e, ex, _⟩ := I.hok p _ hk
      refine ⟨⟨o, e, ex.1⟩, fun a e2 => ?_⟩
      cases e2
      exact ⟨o, e, ex.2.1⟩
  | _ => exact False.elim ty
def tBM0 (K : PySem.W.Frag) (T : String) (r : V → List V → Hp → VK → Prop) (to : TE) : TE := fun σ H Q => to σ H fun x H1 => tyV K T x H1 ∧ r x [] H1 Q
def tBM (K : PySem.W.Frag) (T : String) (r : V → List V → Hp → VK → Prop) (to : TE) (t : TA) : TE := fun σ H Q => to σ H fun x H1 => tyV K T x H1 ∧ t σ H1 fun xs H2 => r x xs H2 Q
variable {o e : Expr} {es : List Expr} {to : TE} {t : TA} {name : Str} {apos cpos : Pos} {T id : String} {r : V → List V → Hp → VK → Prop}
theorem pe_bm0 (pa : PlainAttrs T) (slot : Slot T name id) (hty : typeOf (.builtin id) = pure (.type "method_descriptor")) (hm : MtR X id r) (ho : PE X o to)
    (hbase : attributeBase o name X.env (eval o X.env) = eval o X.env := by rfl) (hline : (apos.endLine == cpos.line) = true := by rfl) : PE X (.Call (.Attribute o name apos) [] [] cpos) (tBM0 X.K T r to) := by
  intro pins s σ H Q I h
  refine wpAny_Call_method0_late hbase hline (thn (ho pins s σ H _ I h) fun v s1 ⟨x, H1, I1, r1, ty, q1⟩ => ?_)
  obtain ⟨h1, h2⟩ := tyV_is I1 r1 ty
  exact ⟨T, id, pa, slot, hty, h1, h2, Calls.callWith_builtin rfl (PySem.evalArgs_none (hm pins s1 σ H1 x [] v [] Q I1 r1 .nil q1))⟩
theorem pe_bm (pa : PlainAttrs T) (slot : Slot T name id) (hty : typeOf (.builtin id) = pure (.type "method_descriptor")) (hm : MtR X id r) (ho : PE X o to) (ha : PA X (e :: es) t)
    (hbase : attributeBase o name X.env (eval o X.env) = eval o X.env := by rfl)
    (hfew : ((backTo cpos (starEach (e :: es) X.env)).all (fun x => !x.1) && (backToKw cpos (keywordEach [] X.env)).all (fun x => x.1.isSome)
      && decide ((e :: es).length + ([] : List Keyword).length + (if ([] : List Keyword).isEmpty then 0 else 1) < 30)) = true := by rfl)
    (hline : (apos.endLine == cpos.line) = true := by rfl) (hs : starEach (e :: es) X.env = (false, eval e X.env) :: starEach es X.env := by rfl) (hplain : (backTo cpos (starEach es X.env)).any (·.1) = false := by rfl) :
    PE X (.Call (.Attribute o name apos) (e :: es) [] cpos) (tBM X.K T r to t) := by
  intro pins s σ H Q I h
  refine wpAny_Call_method_late hbase hfew hline rfl (thn (ho pins s σ H _ I h) fun v s1 ⟨x, H1, I1, r1, ty, q1⟩ => ?_)
  obtain ⟨h1, h2⟩ := tyV_is I1 r1 ty
  refine ⟨T, id, pa, slot, hty, h1, h2, ?_⟩
  have hA := ha cpos pins s1 σ H1 _ I1 q1
  rw [hs] at hA ⊢
  refine Calls.callWith_builtin (by show (false || (backTo cpos (starEach es X.env)).any (·.1)) = false; rw [hplain] <;> rfl) (Calls.evalArgs_plain ?_)
  exact thn hA fun us s2 ⟨vs, H2, I2, r2, q2⟩ => hm pins s2 σ H2 x vs v us Q I2 r1 r2 q2
end
end L2
namespace L2
open PySem PySem.Spec PyProof.Rows
def MtM (X : Cx) (id : String) (r : V → List V → Hp → VK → Prop) : Prop :=
  ∀ (pins : List (Addr × Obj)) (s : Shared) (σ : St) (H : Hp) (x : V) (xs : List V) (v : Value) (us : List Value) (Q : VK), Inv X pins σ H s → RelV x v → Vals xs us → r x xs H Q →
    wpAny (model X.prog X.w) X.A (call (.builtin id) (v :: us)) (EP X pins σ Q) X.xe s
theorem Vals.one : ∀ {x : V} {us : List Value}, Vals [x] us → ∃ u, us = [u] ∧ RelV x u
  | _, _, .cons r .nil => ⟨_, rfl, r⟩
theorem Vals.zero : ∀ {us : List Value}, Vals [] us → us = []
  | _, .nil => rfl
theorem Vals.dropLast {xs : List V} {us : List Value} (h : Vals xs us) : Vals xs.dropLast us.dropLast := by
  induction h with
  | nil => exact .nil
  | cons r t ih =>
    cases t with
    | nil => exact .nil
    | cons q t' => exact .cons r ih
theorem Vals.eraseIdx : ∀ {xs : List V} {us : List Value} (i : Nat), Vals xs us → Vals (xs.eraseIdx i) (us.eraseIdx i)
  | _, _, _, .nil => .nil
  | _, _, 0, .cons _ t => t
  | _, _, i + 1, .cons r t => .cons r (Vals.eraseIdx i t)
theorem Vals.reverse {xs : List V} {us : List Value} (h : Vals xs us) : Vals xs.reverse us.reverse := by
  induction h with
  | nil => exact .nil
  | cons r t ih => rw [List.reverse_cons, List.reverse_cons]; exact Vals.append ih (.cons r .nil)
theorem erase_last {α : Type} (l : List α) : l.eraseIdx (l.length - 1) = l.dropLast := by
  induction l with
  | nil => rfl
  | cons a r ih =>
    cases r with
    | nil => rfl
    | cons b r =>
      have e : (a :: b :: r).length - 1 = ((b :: r).length - 1) + 1 := by
        have h1 : (a :: b :: r).length = r.length + 2 := rfl
        have h2 : (b :: r).length = r.length + 1 := rfl
        omega
      rw [e, List.eraseIdx_cons_succ, ih]
      all_goals rfl
theorem len_erase {α : Type} : ∀ (l : List α) (i : Nat), (l.eraseIdx i).length ≤ l.length
  | [], _ => Nat.le_refl _
  | _ :: _, 0 => Nat.le_succ _
  | _ :: r, i + 1 => Nat.succ_le_succ (len_erase r i)
section
variable {X : Cx} {pins : List (Addr × Obj)} {σ : St} {H : Hp} {s : Shared} {l b : Addr} {xs ys zs : List V}
theorem Inv.lset {its its' : List Value} {n : Nat} {f : Array Value → Array Value} {t' : Nat} (I : Inv X pins σ H s) (hH : H l = some (.lst xs))
    (e : s.heap.get? l = some { cls := .type "list", data := .seq its.toArray n }) (hf : f its.toArray = its'.toArray) (hv : Vals ys its') (hz : ys.length ≤ sizeLine) :
    Inv X pins σ (upd H l (.lst ys)) { s with heap := s.heap.update l (Obj.mapSeq f), toks := t' } := by
  have q := PySem.IsL.update e f
  rw [hf] at q
  refine I.write (x := l) (e := l) (by rw [hH]; exact trivial) (.inl rfl) (fun b' u hb hu => (Heap.get?_update_other s.heap (Obj.mapSeq f) (Ne.symm hb)).trans hu) ⟨_, q⟩ ?_
  exact ⟨hz, its', _, hv, q⟩
theorem Inv.lstM (I : Inv X pins σ H s) (hH : H l = some (.lst xs)) : xs.length ≤ sizeLine ∧ ∃ (its : List Value) (n : Nat), Vals xs its ∧ xs.length = its.length ∧ s.heap.get? l = some { cls := .type "list", data := .seq its.toArray n } := by
  obtain ⟨z, its, n, r, e⟩ := I.hok l _ hH
  exact ⟨z, its, n, r, r.length, e⟩
theorem notLongL {n : Nat} (h : n ≤ sizeLine) : Builtin.List.listTooLong n = false := by
  unfold Builtin.List.listTooLong
  exact decide_eq_false (by omega)
end
section
variable {X : Cx}
def rAppend : V → List V → Hp → VK → Prop := fun x vs H Q => ∃ l xs y, x = .ref l ∧ vs = [y] ∧ H l = some (.lst xs) ∧ xs.length < sizeLine ∧ Q .non (upd H l (.lst (xs ++ [y])))
theorem mt_append : MtM X "list.append" rAppend := by
  intro pins s σ H x vs v us Q I rx rv h
  obtain ⟨l, xs, y, rfl, rfl, hH, hz, q⟩ := h
  cases rx
  obtain ⟨u, rfl, ru⟩ := rv.one
  obtain ⟨z, its, n, r, hl, e⟩ := I.lstM hH
  refine call_meets F.slot_list_append ⟨_, e, rfl⟩ F.entry_list_append (F.args_list_append_2 _ _) (PySem.list_append l its.toArray n u (by rw [List.size_toArray]; omega)) ⟨e, ?_⟩
  refine ⟨.non, _, I.lset (its' := its ++ [u]) hH e (by simp) (r.append (.cons ru .nil)) ?_, rfl, q⟩
  rw [List.length_append, List.length_singleton]
  omega
def rExtend : V → List V → Hp → VK → Prop := fun x vs H Q => ∃ l b xs zs, x = .ref l ∧ vs = [.ref b] ∧ H l = some (.lst xs) ∧ H b = some (.lst zs) ∧ xs.length + zs.length ≤ sizeLine ∧ Q .non (upd H l (.lst (xs ++ zs)))
theorem mt_extend : MtM X "list.extend" rExtend := by
  intro pins s σ H x vs v us Q I rx rv h
  obtain ⟨l, b, xs, zs, rfl, rfl, hH, hB, hz, q⟩ := h
  cases rx
  obtain ⟨u, rfl, ru⟩ := rv.one
  cases ru
  obtain ⟨z, its, n, r, hl, e⟩ := I.lstM hH
  obtain ⟨z2, its2, n2, r2, hl2, e2⟩ := I.lstM hB
  have hsz : its.toArray.size + its2.toArray.size ≤ sizeLine := by rw [List.size_toArray, List.size_toArray]; omega
  have hlong : ¬ (!its.toArray.isEmpty && Builtin.List.listTooLong (its.toArray.size + its2.toArray.size)) = true := by
    rw [notLongL hsz, Bool.and_false]
    exact Bool.false_ne_true
  refine call_meets F.slot_list_extend ⟨_, e, rfl⟩ F.entry_list_extend (F.args_list_extend_2 _ _)
    (AutoSeq1.list_extend_list_list_0 l its.toArray n b its2.toArray n2 hlong (by rw [List.size_toArray]; omega) (by omega)) ⟨e, e2, ?_⟩
  refine ⟨.non, _, I.lset (its' := its ++ its2) hH e (by simp) (r.append r2) ?_, rfl, q⟩
  rw [List.length_append]
  omega
def rPop : V → List V → Hp → VK → Prop := fun x vs H Q => ∃ l xs y, x = .ref l ∧ vs = [] ∧ H l = some (.lst xs) ∧ xs[xs.length - 1]? = some y ∧ Q y (upd H l (.lst xs.dropLast))
theorem mt_pop : MtM X "list.pop" rPop := by
  intro pins s σ H x vs v us Q I rx rv h
  obtain ⟨l, xs, y, rfl, rfl, hH, hy, q⟩ := h
  cases rx
  have hus := rv.zero
  subst hus
  obtain ⟨z, its, n, r, hl, e⟩ := I.lstM hH
  obtain ⟨u, hu, ru⟩ := r.get hy
  have hy' : its.toArray[its.toArray.size - 1]? = some u := by
    show its.toArray[its.length - 1]? = some u
    rw [← Array.getElem?_toList, ← hl]
    exact hu
  refine call_meets F.slot_list_pop ⟨_, e, rfl⟩ F.entry_list_pop (F.args_list_pop_1 _) (MeetsSeq.list_pop_last l its.toArray n u hy' (by rw [List.size_toArray]; omega)) ⟨e, ?_⟩
  refine ⟨y, _, I.lset (its' := its.dropLast) hH e ?_ r.dropLast ?_, ru, q⟩
  · show its.toArray.eraseIdxIfInBounds (its.toArray.size - 1) = its.dropLast.toArray
    rw [List.size_toArray, List.eraseIdxIfInBounds_toArray, erase_last]
  · rw [List.length_dropLast]
    omega
def rPopAt : V → List V → Hp → VK → Prop := fun x vs H Q => ∃ l xs i k y, x = .ref l ∧ vs = [.int i] ∧ H l = some (.lst xs) ∧ -(2 ^ 63) ≤ i ∧ i < 2 ^ 63 ∧ seqIndex? i xs.length = some k ∧ xs[k]? = some y ∧ Q y (upd H l (.lst (xs.eraseIdx k)))
theorem mt_popAt : MtM X "list.pop" rPopAt := by
  intro pins s σ H x vs v us Q I rx rv h
  obtain ⟨l, xs, i, k, y, rfl, rfl, hH, h1, h2, hk, hy, q⟩ := h
  cases rx
  obtain ⟨u, rfl, ru⟩ := rv.one
  obtain ⟨t, rfl⟩ := ru
  obtain ⟨z, its, n, r, hl, e⟩ := I.lstM hH
  obtain ⟨w, hw, rw'⟩ := r.get hy
  refine call_meets F.slot_list_pop ⟨_, e, rfl⟩ F.entry_list_pop (F.args_list_pop_2 _ _)
    (MeetsSeq.list_pop_at l its.toArray n i t k w (fitsIndex_both h1 h2) (by rw [List.size_toArray, ← hl]; exact hk) (by rw [← Array.getElem?_toList]; exact hw) (by rw [List.size_toArray]; omega)) ⟨e, ?_⟩
  refine ⟨y, _, I.lset (its' := its.eraseIdx k) hH e ?_ (r.eraseIdx k) ?_, rw', q⟩
  · show its.toArray.eraseIdxIfInBounds k = (its.eraseIdx k).toArray
    rw [List.eraseIdxIfInBounds_toArray]
  · have := len_erase xs k
    omega
def rReverse : V → List V → Hp → VK → Prop := fun x vs H Q => ∃ l xs, x = .ref l ∧ vs = [] ∧ H l = some (.lst xs) ∧ Q .non (upd H l (.lst xs.reverse))
theorem mt_reverse : MtM X "list.reverse" rReverse := by
  intro pins s σ H x vs v us Q I rx rv h
  obtain ⟨l, xs, rfl, rfl, hH, q⟩ := h
  cases rx
  have hus := rv.zero
  subst hus
  obtain ⟨z, its, n, r, hl, e⟩ := I.lstM hH
  refine call_meets F.slot_list_reverse ⟨_, e, rfl⟩ F.entry_list_reverse (F.args_list_reverse_1 _) (AutoSeq1.list_reverse_list_0 l its.toArray n (by rw [List.size_toArray]; omega)) ⟨e, ?_⟩
  refine ⟨.non, _, I.lset (its' := its.reverse) hH e (by simp) r.reverse ?_, rfl, q⟩
  rw [List.length_reverse]
  omega
end
section
variable {prog : Program} {w : World} {A : Around} {E : Value → Shared → Prop} {s : Shared}
set_option maxRecDepth 100000 in
end
section
variable {X : Cx}
end
end L2
namespace Att
open PySem PySem.W PySem.Calls PyProof.Rows
theorem ints_of_wellAll {P : Params} {h : Heap} : ∀ (ns : List Int) (vs : List Value), WellAll P h vs (ns.map WData.int) → IntsAre vs ns := by
  intro ns
  induction ns with
  | nil =>
    intro vs w
    rw [List.map_nil] at w
    cases w
    exact .nil
  | cons n ns ih =>
    intro vs w
    rw [List.map_cons] at w
    cases w with
    | cons a b =>
      cases a
      exact .cons _ _ (ih _ b)
theorem script_of {l : OpenLaw} {n : Nat} (hn : l.most = some n) {P : Params} {h : Heap} {args : List WData} {vals : List Value}
    (hpre : l.row.toRowW.claim.pre args = true) (hwl : WellAll P h vals args) :
    ∃ a vs ns, vals = [Value.ref a] ∧ args = [WData.list (ns.map WData.int)] ∧ h.get? a = some { cls := .type "list", data := .seq vs.toArray } ∧ IntsAre vs ns ∧ ns.length ≤ n := by
  have hsh : WShape.hasAll [] args [.list .int] = true := (pre_splitW hpre).1
  have hc : l.pre.holds [] { args := args } = true := (pre_splitW hpre).2
  obtain ⟨d, r, rfl, h1, h2⟩ := hasAllW_cons hsh
  obtain rfl := hasAllW_nil h2
  obtain ⟨xs, rfl, h3⟩ := hasW_list h1
  obtain ⟨ns, rfl⟩ := items_int h3
  have hlen : ns.length ≤ n := by
    unfold OpenLaw.pre at hc
    have h4 : (WTm.not (.lt (.lit (.int (n : Int))) (.len (.arg 0)))).holds [] { args := [.list (ns.map .int)] } = true := by
      have h4 := (holds_andW hc).1
      rw [hn] at h4
      exact h4
    have h5 := condW_of h4 (w_not (w_lt w_lit (w_len_list (w_arg rfl))))
    rw [List.length_map] at h5
    refine Nat.le_of_not_lt fun q => ?_
    have q' : (n : Int) < ((ns.length : Nat) : Int) := by omega
    first
      | (rw [decide_eq_true q'] at h5; exact absurd h5 (by decide))
      | (simp at h5; omega)
  cases hwl with
  | cons w1 w2 =>
    cases w2
    cases w1 with
    | list ho hall => exact ⟨_, _, ns, rfl, rfl, ho, ints_of_wellAll ns _ hall, hlen⟩
theorem post_true (l : OpenLaw) (args : List WData) : l.row.toRowW.claim.post args (.bool true) args = true :=
  postW_of (r := l.row.toRowW) (X := (true == true))
    (show WShape.has [] (.bool true) .bool = true by first | rfl | decide | simp [WShape.has, WShape.arms, WShape.armsAll])
    (show (WTm.eq .res (.lit (.bool true))).value [] { args := args, res := some (.bool true), after := args } = some (.bool (true == true)) from w_eq_bool (w_res rfl) w_lit) rfl
theorem attach_call {l : OpenLaw} {n : Nat} {q : Program} {loose : List Str} {XP : (Str → Option Value) → Heap → Prop} {YP : World → Heap → Prop} {d : DefRec}
    (hn : l.most = some n) (hdf : d.params.defaults = [])
    (call : ∀ (w : World) (s₀ s₁ : Shared) (mg mb : Str → Option Value) (fa : Addr) (o : Obj) (pm cd doc : Value) (a : Addr) (vs : List Value) (ns : List Int),
      Ground q loose [] XP w s₀ mg mb s₁.heap → YP w s₁.heap →
      s₁.heap.get? fa = some o → o.data = .func (docDef d.name d.params d.body d.scope pm cd doc) → s₁.heap.CodeRec cd d.name → mg d.name = some (.ref fa) →
      s₁.heap.get? a = some { cls := .type "list", data := .seq vs.toArray } → IntsAre vs ns → ns.length ≤ n → s₁.gens = #[] →
      codeAny (model l.prog w) callerA (.call (.ref fa) ⟨[.ref a], []⟩) (fun r s' => r = .ok (.ret (.bool true)) ∧ OldK s₁.heap s'.heap ∧ s'.os = s₁.os ∧ AllBare s'.gens) s₁) :
    WalkO q loose XP YP l.row.toRowW d [] (fun f vs => PySem.call f vs) := by
  intro w s₀ s₁ mg mb G Y fa o pm cd doc dV kV ho hd hcd hD hmg hg args vals as hpre hlay hrd hwl hlo
  obtain rfl : dV = .none := Dflts.none hD hdf
  obtain rfl : kV = .none := Dflts.noKw hD
  obtain ⟨a, vs, ns, rfl, rfl, hobj, hints, hlen⟩ := script_of hn hpre hwl
  refine enter_call (codeAny_mono (call w s₀ s₁ mg mb fa o pm cd doc a vs ns G Y ho (fd_plain hd) hcd hmg hobj hints hlen hg) fun r s' hq => ?_)
  obtain ⟨rfl, h2, h3, h4⟩ := hq
  exact ⟨.inl ⟨.bool true, .bool true, [], rfl, fun _ => rfl, .bool true, post_true l _, fun _ => ⟨List.Pairwise.nil, fun _ hm => (nomatch hm)⟩⟩, h2, h3, h4⟩
section
variable {prog : Program} {w : World} {A : Around} {E : Value → Shared → Prop} {s : Shared} {K : Frag}
end
end Att
namespace L2
open PySem PySem.Spec PyProof.Rows
theorem vals_ints : ∀ {vs : List Value} {ns : List Int}, IntsAre vs ns → Vals (ns.map V.int) vs
  | _, _, .nil => .nil
  | _, _, .cons n t h => .cons ⟨t, rfl⟩ (vals_ints h)
def Only (H : Hp) : Prop := ∀ b, H b = none ∨ ∃ o xs, H b = some (.frz o (.lst xs))
theorem law_call {P : Program} {w : World} {K : PySem.W.Frag} {mg mb : Str → Option Value} {CX : CXT} {k : Nat} {fa a : Addr} {fd : FuncData} {x : Str} {sp : Sp} {s₁ : Shared} {vs : List Value} {ns : List Int}
    (KX : K.In s₁.heap) (hns : s₁.heap.Ns mainGlobals mg) (hb : s₁.heap.Ns builtinsNs mb) (hbb : ∀ x : Str, x ≠ "__name__" → mb x = bootBuiltins x) (hlim : s₁.heap.NoLimit) (hg : s₁.gens = #[])
    (ha : s₁.heap.get? a = some { cls := .type "list", data := .seq vs.toArray }) (hi : IntsAre vs ns) (hl : ns.length ≤ sizeLine) (hr : Room k callerA)
    (F : ∀ base : Heap, K.In base → base.Ns mainGlobals mg → FnOk P w K mg base CX k fa fd [x] sp) (hbind : ∀ (s : Shared) (u : Value), BindsTo s fd ⟨[u], []⟩ [(x, u)])
    (hsp : ∀ H : Hp, Only H → SqL K H a (ns.map V.int) → sp [.ref a] H (fun v _ => v = .bl true) fun _ _ _ => False)
    (hCX : ∀ H e s', CX [] H s₁ (fun _ _ _ => False) e s' → False) :
    codeAny (model P w) callerA (.call (.ref fa) ⟨[.ref a], []⟩) (fun r s' => r = .ok (.ret (.bool true)) ∧ OldK s₁.heap s'.heap ∧ s'.os = s₁.os ∧ AllBare s'.gens) s₁ := by
  have rv := vals_ints hi
  have lenV := hi.length
  have core : ∀ H : Hp, Only H → SqL K H a (ns.map V.int) → HOk P w H s₁.heap → (∀ b, H b ≠ none → b = a) → (H a ≠ none → K.lookup a = none) →
      codeAny (model P w) callerA (.call (.ref fa) ⟨[.ref a], []⟩) (fun r s' => r = .ok (.ret (.bool true)) ∧ OldK s₁.heap s'.heap ∧ s'.os = s₁.os ∧ AllBare s'.gens) s₁ := by
    intro H hO hS hok hA hK
    have base_of : ∀ {b : Addr} {o : Obj}, s₁.heap.get? b = some o → H b = none → (hidT s₁.heap H).get? b = some o := fun e n => hidT_get e n
    have noA : ∀ {b : Addr} {o : Obj} {es : Array DictEntry} {ep : Nat}, s₁.heap.get? b = some o → o.data = .dict es ep → H b = none := fun {b o es ep} e d => by
      cases q : H b with
      | none => rfl
      | some u =>
        have e' : b = a := hA b (by rw [q]; simp)
        subst e'
        rw [ha] at e; cases e
        have d' : Data.seq vs.toArray _ = Data.dict es ep := d
        cases d'
    have nsK : ∀ {b : Addr} {m : Str → Option Value}, s₁.heap.Ns b m → (hidT s₁.heap H).Ns b m := fun {b m} ⟨o, es, ep, e, d, r⟩ => ⟨o, es, ep, base_of e (noA e d), d, r⟩
    have hKb : K.In (hidT s₁.heap H) := fun b o e => base_of (KX b o e) (by
      cases q : H b with
      | none => rfl
      | some u =>
        have e' : b = a := hA b (by rw [q]; simp)
        subst e'
        rw [hK (by rw [q]; simp)] at e; cases e)
    have hM : Mod K mg (hidT s₁.heap H) := ⟨hKb, nsK hns, ⟨mb, nsK hb, hbb⟩, let ⟨mc, h1, h2⟩ := hlim; ⟨mc, nsK h1, h2⟩⟩
    have e0 : Env0 P w K mg (hidT s₁.heap H) callerA [] s₁ H := ⟨rfl, hM, fun b o e => of_hidT e, Nat.le_of_eq (hidT_size _ _), trivial, fun b hb => absurd (show b ∈ ([] : List Addr) from hb) (by simp), hok, .of_eq hg⟩
    refine codeAny_mono ((F _ hKb (nsK hns)).run callerA [] s₁ H ⟨[.ref a], []⟩ [.ref a] [.ref a] _ _ hr e0 (hbind s₁ (.ref a)) (.cons rfl .nil) (hsp H hO hS)) fun r s' h => ?_
    cases r with
    | error e => exact (hCX H e s' h).elim
    | ok fl =>
      cases fl with
      | next => exact False.elim h
      | brk => exact False.elim h
      | cont => exact False.elim h
      | ret u =>
        obtain ⟨v, H', os, bare, un, hok', r', q⟩ := h
        have q' : v = .bl true := q
        subst q'
        obtain rfl : u = Value.bool true := r'
        refine ⟨rfl, OldK.of_keep fun b o e => ?_, os, bare⟩
        cases q : H b with
        | none => exact un.keep b o e q (by intro z; exact absurd (show b ∈ ([] : List Addr) from z) (by simp)) (by simp)
        | some u =>
          rcases hO b with z | ⟨ob, xs, z⟩
          · rw [q] at z; cases z
          · have z2 := un.frzs b ob _ z
            obtain ⟨e1, _⟩ := hok b _ z
            obtain ⟨e2, _⟩ := hok' b _ z2
            rw [e] at e1; cases e1
            exact e2
  cases hk : K.lookup a with
  | some o =>
    have e := KX a o hk
    rw [ha] at e
    cases e
    refine core (fun _ => none) (fun _ => .inl rfl) (.inr ⟨_, vs.toArray, _, hk, rfl, rfl, rfl, by rw [List.size_toArray, lenV]; exact hl, by simpa using rv⟩) (fun b u z => by have z' : (none : Option HO) = some u := z; cases z') (fun b z => absurd rfl z) fun z => absurd rfl z
  | none =>
    refine core (fun b => if b = a then some (.frz { cls := .type "list", data := .seq vs.toArray } (.lst (ns.map V.int))) else none) (fun b => ?_) (.inl (.inr ⟨{ cls := .type "list", data := .seq vs.toArray }, if_pos rfl⟩)) (fun b u z => ?_) (fun b z => ?_) fun _ => hk
    · by_cases hb : b = a
      · exact .inr ⟨_, _, if_pos hb⟩
      · exact .inl (if_neg hb)
    · by_cases hb : b = a
      · have z' := (if_pos hb).symm.trans z
        cases z'
        subst hb
        exact ⟨ha, by rw [List.length_map]; exact hl, vs, _, rv, ha⟩
      · have z' := (if_neg hb).symm.trans z
        cases z'
    · by_cases hb : b = a
      · exact hb
      · exact absurd (if_neg hb) z
end L2
namespace L2
open PySem PySem.Spec PyProof.Rows
abbrev KOf {K : PySem.W.Frag} {h : Heap} (_ : K.In h) : PySem.W.Frag := K
theorem walk_of {l : PySem.W.OpenLaw} {n k : Nat} {q : Program} {loose : List Str} {XP : (Str → Option Value) → Heap → Prop} {YP : World → Heap → Prop} {d : DefRec} {K : Params → PySem.W.Frag} {CX : World → CXT} {sp : World → Sp} {x : Str}
    (hn : l.most = some n) (hn2 : n ≤ sizeLine) (hdf : d.params.defaults = []) (hr : Room k callerA)
    (hY : ∀ (w : World) (h : Heap), YP w h → (K w.params).In h)
    (F : ∀ (w : World) (mg : Str → Option Value) (fa : Addr) (h : Heap), (K w.params).In h → h.Ns mainGlobals mg → mg d.name = some (.ref fa) →
      ∃ fd : FuncData, (∀ (s : Shared) (u : Value), BindsTo s fd ⟨[u], []⟩ [(x, u)]) ∧
        ∀ base : Heap, (K w.params).In base → base.Ns mainGlobals mg → FnOk l.prog w (K w.params) mg base (CX w) k fa fd [x] (sp w))
    (hsp : ∀ (w : World) (H : Hp) (a : Addr) (ns : List Int), ns.length ≤ n → Only H → SqL (K w.params) H a (ns.map V.int) → sp w [.ref a] H (fun v _ => v = .bl true) fun _ _ _ => False)
    (hCX : ∀ (w : World) (H : Hp) (s : Shared) (e : Value) (s' : Shared), CX w [] H s (fun _ _ _ => False) e s' → False) :
    PySem.W.WalkO q loose XP YP l.row.toRowW d [] (fun f vs => PySem.call f vs) := by
  refine Att.attach_call hn hdf fun w s₀ s₁ mg mb fa o pm cd doc a vs ns G Y ho hd hcd hmg hobj hints hlen hg => ?_
  have KX := hY w _ Y
  obtain ⟨fd, hb, hF⟩ := F w mg fa _ KX G.T.g hmg
  exact law_call KX G.T.g G.T.b G.T.builtins G.T.nolimit hg hobj hints (Nat.le_trans hlen hn2) hr hF hb (fun H hO hS => hsp w H a ns hlen hO hS) fun H e s' => hCX w H s₁ e s'
end L2
namespace L2
open PySem PySem.Spec PyProof.Rows
def defArgs (s : Stmt) : Arguments := match s with
  | .FunctionDef _ a _ _ _ _ _ _ _ _ => a
  | _ => { posonlyargs := [], args := [], vararg := none, kwonlyargs := [], kw_defaults := [], kwarg := none, defaults := [] }
def defBody (s : Stmt) : List Stmt := match s with
  | .FunctionDef _ _ b _ _ _ _ _ _ _ => b
  | _ => []
def defScope (s : Stmt) : Scope := match s with
  | .FunctionDef _ _ _ _ _ _ sc _ _ _ => sc
  | _ => { kind := .function, names := [], isGenerator := false, isCoroutine := false }
abbrev CX0 : CXT := fun _ _ _ _ _ _ => False
abbrev E0 : XK := fun _ _ _ => False
theorem pass0 {X : Cx} : Passes CX0 X E0 := fun _ _ _ _ _ _ _ h => h.elim
structure Fun (K : PySem.W.Frag) (x qual : Str) (st : Stmt) (f : Addr) (fd : FuncData) : Prop where
  ex : ∃ (oc : Value) (od : Option Addr) (kV doc pm : Value) (an : Option Addr) (cdv ct : Value) (osl : Array (Option Value)),
    fd = PySem.W.fnOf x qual (defArgs st) (defBody st) (defScope st) .none kV doc pm an cdv ct ∧ K.lookup f = some ⟨oc, od, .func fd, osl⟩ ∧ PySem.W.codeIn K cdv qual = true
  kp : PySem.W.keepIn K (.ref f) = true
section
variable {P : Program} {w : World} {K : PySem.W.Frag} {mg : Str → Option Value} {base : Heap}
theorem Fun.ok {x qual : Str} {st : Stmt} {f : Addr} {fd : FuncData} {N ps : List Str} {k : Nat} {sp : Sp} (F : Fun K x qual st f fd) (S : FnScope N ps (defScope st)) (len : ∀ vs H Q E, sp vs H Q E → vs.length = ps.length)
    (hbody : ∀ (cdv : Value) (A : Around) (outer : List Env) (s : Shared) (H : Hp) (vs : List V) (Q : VK) (E : XK), Room k (A.deeper (envOfC qual (defScope st) s.heap.objs.size f cdv)) → sp vs H Q E →
      ∃ t, PSs (cxOf CX0 P w K mg base N qual (defScope st) f cdv A outer s H E).nox (defBody st) t ∧ t { nx := fun _ H' => Q .non H', rt := Q } (start N vs) H) : FnOk P w K mg base CX0 (k + 1) f fd ps sp := by
  obtain ⟨oc, od, kV, doc, pm, an, cdv, ct, osl, rfl, lk, hcd⟩ := F.ex
  refine fn_of lk hcd S len fun A outer s H vs Q E hr hsp => ?_
  obtain ⟨t, h, q⟩ := hbody cdv A outer s H vs Q E hr hsp
  exact ⟨t, h.nox, q⟩
theorem Fun.binds {x qual : Str} {st : Stmt} {f : Addr} {fd : FuncData} {ps : List Str} (F : Fun K x qual st f fd)
    (h : ∀ (kV doc pm : Value) (an : Option Addr) (cdv ct : Value) (us : List Value), us.length = ps.length → bindArgs (PySem.W.fnOf x qual (defArgs st) (defBody st) (defScope st) .none kV doc pm an cdv ct) ⟨us, []⟩ = pure (ps.zip us)) : Binds K fd ps [] := by
  obtain ⟨oc, od, kV, doc, pm, an, cdv, ct, osl, rfl, lk, hcd⟩ := F.ex
  exact .all (h kV doc pm an cdv ct)
theorem fun_mk {x qual : Str} {st : Stmt} {f : Addr} {oc : Value} {od an : Option Addr} {osl : Array (Option Value)} {kV doc pm cdv ct : Value} (l : K.lookup f = some ⟨oc, od, .func (PySem.W.fnOf x qual (defArgs st) (defBody st) (defScope st) .none kV doc pm an cdv ct), osl⟩)
    (c : PySem.W.codeIn K cdv qual = true) (k : PySem.W.keepIn K (.ref f) = true) : Fun K x qual st f (PySem.W.fnOf x qual (defArgs st) (defBody st) (defScope st) .none kV doc pm an cdv ct) := ⟨⟨oc, od, kV, doc, pm, an, cdv, ct, osl, rfl, l, c⟩, k⟩
end
theorem hu_of {A : Around} {k : Nat} (hr : Room k A) : A.units + 1 < cLine := Nat.lt_of_le_of_lt (Nat.add_le_add_left (by decide : 1 ≤ 64) _) hr.units
theorem small1000 {n : Nat} (h : n ≤ 1000) : n < sizeLine := Nat.lt_of_le_of_lt h (by decide)
section
variable {X : Cx}
theorem pv (i : Nat) {x : Str} {pos : Pos} (hN : X.N[i]? = some x := by rfl) (hv : Vis X.env.scope x := by first | exact Or.inl rfl | exact Or.inr (Or.inl rfl) | exact Or.inr (Or.inr rfl)) (hd : (x == ("__debug__" : Str)) = false := by decide)
    (hcd : (x == ("__classdict__" : Str)) = false := by decide) : PE X (.Name x pos) (tVar i) := pe_var hN hv hd hcd
end
theorem iteF {A B : Prop} (h : B) : if false = true then A else B := by
  rw [if_neg Bool.false_ne_true]
  exact h
theorem iteT {A B : Prop} (h : A) : if true = true then A else B := by
  rw [if_pos rfl]
  exact h
theorem ite2 {c A B : Prop} [Decidable c] (h1 : c → A) (h2 : ¬ c → B) : if c then A else B := by
  by_cases h : c
  · rw [if_pos h]
    exact h1 h
  · rw [if_neg h]
    exact h2 h
theorem iteNS {c A B : Prop} [Decidable c] (hc : c) (h : B) : if (!decide c) = true then A else B := by
  rw [decide_eq_true hc]
  exact iteF h
def Same (H H' : Hp) : Prop := ∀ b o, H b = some o → H' b = some o
theorem Same.refl (H : Hp) : Same H H := fun _ _ h => h
theorem Same.trans {H H1 H2 : Hp} (a : Same H H1) (b : Same H1 H2) : Same H H2 := fun c o h => b c o (a c o h)
theorem Same.free {H H' : Hp} (e : Same H H') {l : Addr} (h : H' l = Option.none) : H l = Option.none := by
  cases q : H l with
  | none => rfl
  | some o =>
    rw [e l o q] at h
    cases h
theorem Same.seq {K : PySem.W.Frag} {H H' : Hp} {a : Addr} {xs : List V} (e : Same H H') (h : SqL K H a xs) : SqL K H' a xs := by
  rcases h with (h | ⟨o, h⟩) | h
  · exact .inl (.inl (e _ _ h))
  · exact .inl (.inr ⟨o, e _ _ h⟩)
  · exact .inr h
end L2
set_option Elab.async false
set_option linter.all false
set_option maxRecDepth 100000
set_option maxHeartbeats 4000000
namespace L2
open PySem PySem.Spec PyProof.Rows
section
variable {X : Cx} {pins : List (Addr × Obj)} {σ : List (Option V)} {H : Hp} {s : Shared} {h' : Heap}
theorem Inv.turnedL {t' : Nat} {ch : List Addr} (I : Inv X pins σ H s) (k : ∀ b o, b ∉ ch → s.heap.get? b = some o → h'.get? b = some o) (hf : ∀ b ∈ ch, FpOk X pins H b) :
    Inv X pins σ H { s with heap := h', toks := t' } := by
  have nit : ∀ b u, H b = some u → b ∉ ch := fun b u e z => by rw [(hf b z).1] at e; cases e
  refine I.step (g' := s.gens) (d' := s.drawn) (ch := ch) (fun b hb => ?_) (fun b o _ _ hc e _ => k b o hc e) (fun b o _ _ hc e _ => ⟨o.slots, k b o hc e⟩) (fun _ _ _ _ n => n)
    (fun b o hc e => ⟨o, k b o hc e⟩) (fun _ _ e => e) (fun _ _ _ e => e) (fun b ps e => ⟨#[], by rw [e]; simp⟩) (fun m hm => ?_) (fun b u e => ?_) I.bare
  · obtain ⟨_, h1, _, h2, h3, h4⟩ := hf b hb
    exact ⟨h2, h1, h3, h4⟩
  · obtain ⟨o, es, ep, ho, r⟩ := hm
    exact ⟨o, es, ep, k _ o (fun z => (hf _ z).2.1 rfl) ho, r⟩
  · refine (I.hok b u e).stay (fun c v hc q => k c v ?_ q) (fun _ q => q) fun _ _ q => q
    rcases hc with z | z
    · rw [z]; exact nit b u e
    · exact nit c _ z
theorem Inv.track {T : Addr} {o : HO} (I : Inv X pins σ H s) (hf : FpOk X pins H T) (new : ObjOk X.prog X.w (upd H T o) s.heap T o) : Inv X pins σ (upd H T o) s := by
  obtain ⟨h0, h1, h5, h2, h3, h4⟩ := hf
  have nT : ∀ b u, H b = some u → b ≠ T := fun b u e z => by rw [z, h0] at e; cases e
  refine I.step (h' := s.heap) (g' := s.gens) (d' := s.drawn) (t' := s.toks) (ch := [T]) (fun b hb => ?_) (fun b o _ _ hc e _ => e) (fun b o _ _ hc e _ => ⟨o.slots, e⟩)
    (fun b o hc _ n => by rw [upd_ne (fun z => hc (by simp [z]))]; exact n)
    (fun b o hc e => ⟨o, e⟩) (fun b xs e => by rw [upd_ne (nT _ _ e)]; exact e) (fun b ob u e => by rw [upd_ne (nT _ _ e)]; exact e) (fun b ps e => ⟨#[], by rw [upd_ne (nT _ _ e), e]; simp⟩) (fun m hm => hm) (fun b u e => ?_) I.bare
  · have e : b = T := by simpa using hb
    subst e
    exact ⟨h2, h1, h3, h4⟩
  · by_cases hb : b = T
    · subst hb; rw [upd_same] at e; cases e; exact new
    · rw [upd_ne hb] at e
      exact (I.hok b u e).stay (fun c v _ q => q) (fun c q => by rw [upd_ne (nT _ _ q)]; exact q) fun c xs q => by rw [upd_ne (nT _ _ q)]; exact q
end
section
variable {X : Cx}
theorem call_isinst : CallR X (.builtin "isinstance") (fun xs H Q => ∃ x t T b, xs = [x, .ty T] ∧ TyOf X.K H x t ∧ PySem.W.kitOne X.K t (.type T) = some b ∧ Q (.bl b) H) := by
  intro pins s σ H xs us Q I r h
  obtain ⟨x, t, T, b, rfl, ty, e, q⟩ := h
  obtain ⟨u, w', rfl, rx, ry⟩ := vals2 r
  cases (show w' = Value.type T from ry)
  exact isinst_ok I rx ty e fun tk => ⟨.bl b, H, I.tok _, rfl, q⟩
def rCatA (K : PySem.W.Frag) : R2 := fun x y H Q => ∃ a b xs ys, x = .ref a ∧ y = .ref b ∧ SqT K H a xs ∧ SqT K H b ys ∧ xs.length + ys.length ≤ sizeLine ∧
  (xs = [] → Q (.ref b) H) ∧ (xs ≠ [] → ys = [] → Q (.ref a) H) ∧ (xs ≠ [] → ys ≠ [] → ∀ p, H p = none → Q (.ref p) (upd H p (.tup (xs ++ ys))))
theorem op_catA : OpR X (binaryOp .Add) (rCatA X.K) := by
  intro pins s σ H x y v u Q I rx ry h
  obtain ⟨a, b, xs, ys, rfl, rfl, ha, hb, hz, q0, q1, q2⟩ := h
  cases rx
  cases ry
  by_cases hx : xs = []
  · obtain ⟨its, r1, p1, _⟩ := I.tuple ha
    obtain ⟨its2, r2, p2, _⟩ := I.tuple hb
    obtain ⟨⟨cls, dd, data, sl⟩, ho, hc, n, hd⟩ := id p1
    obtain ⟨⟨cls2, dd2, data2, sl2⟩, ho2, hc2, n2, hd2⟩ := id p2
    simp only at hc hd hc2 hd2
    subst hc hd hc2 hd2
    have hv : its = [] := r1.nil_iff.mpr hx
    exact concat_meets ⟨_, ho, rfl⟩ ⟨_, ho2, rfl⟩ noFill_tuple_add seq_tuple_add PySem.F.slot_tuple_add PySem.F.entry_tuple_add (PySem.F.args_tuple_add_2 _ _)
      (tuple_addW0 a b its.toArray its2.toArray n n2 dd dd2 sl sl2 (by simp [hv])) ⟨ho, ho2, ⟨.ref b, H, I, rfl, q0 hx⟩⟩
  · exact op_catT pins s σ H (.ref a) (.ref b) (.ref a) (.ref b) Q I rfl rfl ⟨a, b, xs, ys, rfl, rfl, ha, hb, hx, hz, q1 hx, q2 hx⟩
theorem eqV_refl : ∀ {x : V}, flatV x = true → eqV x x = true
  | .non, _ => by rfl
  | .bl b, _ => by simp [eqV]
  | .int i, _ => by simp [eqV]
  | .str z, _ => by simp [eqV]
  | .byt _, h => by first | exact absurd (show false = true from h) Bool.false_ne_true | simp [eqV]
  | .flt _, h => by first | exact absurd (show false = true from h) Bool.false_ne_true | simp [eqV]
  | .ref _, h => by first | exact absurd (show false = true from h) Bool.false_ne_true | simp [eqV]
  | .ty _, h => by first | exact absurd (show false = true from h) Bool.false_ne_true | simp [eqV]
theorem same_items {A : Around} {s : Shared} {xs : List V} {its its2 : List Value} (r1 : Vals xs its) (r2 : Vals xs its2) (hf : xs.all flatV = true) :
    ∀ j (h1 : j < its.toArray.size) (h2 : j < its2.toArray.size), SeqAt.EqAt A s its.toArray[j] its2.toArray[j] true := by
  intro j h1 h2
  have hl := r1.length
  have hj : j < xs.length := by simpa [hl] using h1
  have hx : xs[j]? = some xs[j] := by simp [hj]
  obtain ⟨u, hu, ru⟩ := r1.get hx
  obtain ⟨u2, hu2, ru2⟩ := r2.get hx
  have fx : flatV xs[j] = true := List.all_eq_true.mp hf _ (List.getElem_mem hj)
  have e1 : its.toArray[j] = u := by
    have : its[j]? = some its.toArray[j] := by simp at h1; simp [h1]
    rw [hu] at this; exact (Option.some.inj this).symm
  have e2 : its2.toArray[j] = u2 := by
    have : its2[j]? = some its2.toArray[j] := by simp at h2; simp [h2]
    rw [hu2] at this; exact (Option.some.inj this).symm
  rw [e1, e2]
  have := eqAt_V (A := A) (s := s) ru ru2 fx fx
  rw [eqV_refl fx] at this
  exact this
theorem op_eqL_same (hu : X.A.units < cLine) : OpR X (compareOp .Eq) (fun x y H Q => ∃ a b xs, x = .ref a ∧ y = .ref b ∧ SqL X.K H a xs ∧ SqL X.K H b xs ∧ xs.all flatV = true ∧ Q (.bl true) H) := by
  intro pins s σ H x y v u Q I rx ry h
  obtain ⟨a, b, xs, rfl, rfl, ha, hb, hf, q⟩ := h
  cases rx
  cases ry
  obtain ⟨its, r1, p1, _⟩ := I.list ha
  obtain ⟨its2, r2, p2, _⟩ := I.list hb
  have hl1 := r1.length
  have hl2 := r2.length
  refine SeqAt.eq_listAt (e := fun _ => true) p1.isList p2.isList (by simp; omega) hu (same_items r1 r2 hf) ?_
  have e : ((List.range its.toArray.size).all (fun _ => true)) = true := by simp
  rw [e]
  exact ⟨.bl true, H, I, rfl, q⟩
end
end L2
namespace ET
open PySem PySem.Spec
open PySem.AutoSeq1 (wpAny_loadPart')
section
variable {prog : Program} {w : World} {A : Around} {E : Value → Shared → Prop} {s : Shared}
theorem nextOf_tuple_item {it l : Addr} {i : Nat} {items : Array Value} {x : Value} {Q : Value → Shared → Prop} (hit : s.heap.IsTupleIter it l i)
    (hl : s.heap.IsTuple l items) (hx : items[i]? = some x)
    (hQ : ∀ h', h'.IsTupleIter it l (i + 1) → Heap.SameBut it s.heap h' → Q x { s with heap := h' }) :
    wpAny (model prog w) A (Builtin.SmallTypes.nextOf (.ref it)) Q E s := by
  obtain ⟨o, ho, hc, hd⟩ := id hit
  obtain ⟨ol, hol, _, nl, hdl⟩ := hl
  unfold Builtin.SmallTypes.nextOf
  refine wpAny_bind (wpAny_callSpecial?_slot (name := Str.ofString "__next__") hit.typeIs F.slot_tuple_iterator_next
    (wpAny_call_entry F.slot_tuple_iterator_next hit.typeIs F.entry_tuple_iterator_next ?_ (F.args_tuple_iterator_next_1 _)))
  show wpAny _ _ (field (.ref it) 0 >>= _) _ _ s
  refine wpAny_bind (wpAny_field ho hd (x := .ref l) rfl ?_)
  show wpAny _ _ (if (Value.ref l == Value.none) = true then _ else _) _ _ s
  rw [if_neg (show ¬ ((Value.ref l == Value.none) = true) from Bool.false_ne_true)]
  show wpAny _ _ (field (.ref it) 1 >>= _) _ _ s
  refine wpAny_bind (wpAny_field ho hd (x := .int i 0) rfl ?_)
  show wpAny _ _ (seqItems? (.ref l) >>= _) _ _ s
  refine wpAny_bind (wpAny_seqItems hol hdl ?_)
  simp only [Int.toNat_natCast, hx]
  refine wpAny_bind (wpAny_setField ho hd (by simp) (wpAny_pure ⟨x, rfl, wpAny_pure (hQ _ ?_ (Heap.SameBut.update ..))⟩))
  exact ⟨_, Heap.get?_update_self _ ho (Obj.isFreed_of_fields (Obj.data_mapFields hd _)), (Obj.cls_mapFields ..).trans hc, by
    rw [Obj.data_mapFields hd]; simp [rawInt]⟩
theorem nextOf_tuple_end {it l : Addr} {i : Nat} {items : Array Value} {Q : Value → Shared → Prop} (hh : A.handled = none)
    (hit : s.heap.IsTupleIter it l i) (hl : s.heap.IsTuple l items) (hx : items[i]? = none)
    (hE : ∀ h' e, Heap.ExtBut it s.heap h' → (∃ o, h'.get? e = some o ∧ o.cls = .type "StopIteration") → E (.ref e) { s with heap := h' }) :
    wpAny (model prog w) A (Builtin.SmallTypes.nextOf (.ref it)) Q E s := by
  obtain ⟨o, ho, hc, hd⟩ := id hit
  obtain ⟨ol, hol, _, nl, hdl⟩ := hl
  unfold Builtin.SmallTypes.nextOf
  refine wpAny_bind (wpAny_callSpecial?_slot (name := Str.ofString "__next__") hit.typeIs F.slot_tuple_iterator_next
    (wpAny_call_entry F.slot_tuple_iterator_next hit.typeIs F.entry_tuple_iterator_next ?_ (F.args_tuple_iterator_next_1 _)))
  show wpAny _ _ (field (.ref it) 0 >>= _) _ _ s
  refine wpAny_bind (wpAny_field ho hd (x := .ref l) rfl ?_)
  show wpAny _ _ (if (Value.ref l == Value.none) = true then _ else _) _ _ s
  rw [if_neg (show ¬ ((Value.ref l == Value.none) = true) from Bool.false_ne_true)]
  show wpAny _ _ (field (.ref it) 1 >>= _) _ _ s
  refine wpAny_bind (wpAny_field ho hd (x := .int i 0) rfl ?_)
  show wpAny _ _ (seqItems? (.ref l) >>= _) _ _ s
  refine wpAny_bind (wpAny_seqItems hol hdl ?_)
  simp only [Int.toNat_natCast, hx]
  refine wpAny_bind (wpAny_rule (wpAny_bind (wpAny_setField ho hd (by simp) ?_)))
  show wpAny _ _ (newExc (.type "StopIteration") [] >>= _) _ _ _
  refine wpAny_bind ?_
  simp only [newExc, newTuple]
  refine wpAny_bind (wpAny_newObj_type ?_ (by size_fits))
  refine wpAny_bind (m := firstArgMember _ _) (wpAny_of_eq (a := Value.none) (by first | rfl | (simp only [firstArgMember]; rfl)) ?_)
  refine wpAny_newObj_type ?_ (by size_fits)
  simp only [raiseNew]
  refine wpAny_bind (wpAny_handled ?_)
  first | rw [show A.in1.handled = none from hh] | rw [hh]
  refine wpAny_bind (wpAny_pure (wpAny_throw ?_))
  exact hE _ _ (((Heap.SameBut.update ..).extBut.push _).push _) ⟨_, Heap.get?_push_size _ rfl, rfl⟩
end
theorem draws_tuple {prog : Program} {w : World} {A : Around} (hh : A.handled = none) (it l : Addr) (hne : l ≠ it) (items : Array Value) :
    Draws prog w A it [it, l] items.size (fun i v => items[i]? = some v) (fun i h => h.IsTupleIter it l i ∧ h.IsTuple l items) where
  live := fun _ _ st => let ⟨o, ho, _⟩ := st.1; ⟨o, ho⟩
  frame := fun _ _ _ st hk => ⟨let ⟨o, ho, r⟩ := st.1; ⟨o, hk it (by simp) o ho, r⟩, let ⟨o, ho, r⟩ := st.2; ⟨o, hk l (by simp) o ho, r⟩⟩
  item := fun i s Q E hi st hQ => by
    refine nextOf_tuple_item st.1 st.2 (x := items[i]) (by simp [hi]) fun h' hit' hs' => ?_
    exact hQ _ h' s.toks (by simp [hi]) ⟨hit', st.2.extBut hs'.extBut hne⟩ hs'
  done := fun s Q E st hE => nextOf_tuple_end hh st.1 st.2 (by simp) hE
theorem meets_enumerate_newT (l : Addr) (items : Array Value) (n : Nat) (dct : Option Addr) (sl : Array (Option Value)) :
    Meets (Builtin.«enumerate.__new__» ⟨[.type "enumerate", .ref l], []⟩) (fun _ R s => s.heap.get? l = some { cls := .type "tuple", dict := dct, data := .seq items n, slots := sl } ∧
      R (.ok (.ret (.ref (s.heap.push { cls := .type "tuple_iterator", data := .fields #[.ref l, .int 0 0] }).objs.size)))
        { s with heap := (s.heap.push { cls := .type "tuple_iterator", data := .fields #[.ref l, .int 0 0] }).push { cls := .type "enumerate", data := .fields #[.none, .bool false, .ref s.heap.objs.size, rawInt 0, .none, .none] } }) :=
  .of_wp fun prog w A R s h => by
    obtain ⟨hp, g, d, tk, os⟩ := s; obtain ⟨hl, h⟩ := h
    have hsub := sub_enumerate
    have hL : Heap.IsTuple (Shared.heap ⟨hp, g, d, tk, os⟩) l items := ⟨_, hl, rfl, n, rfl⟩
    wp_walk using wpAny_loadPart' hl
    refine wpAny_stack_any fun st => wpAny_pure ?_
    split
    · rename_i c _ _ _ _ _
      cases (c == Value.type "enumerate")
      · wp_walk using wpAny_loadPart' hl, wpAny_pyIter_tuple hL
        exact ⟨_, rfl, h⟩
      · wp_walk using wpAny_loadPart' hl, wpAny_pyIter_tuple hL
        exact ⟨_, rfl, h⟩
    · wp_walk using wpAny_loadPart' hl, wpAny_pyIter_tuple hL
      exact ⟨_, rfl, h⟩
theorem call_enumerate_tuple {prog : Program} {w : World} {A : Around} {E : Value → Shared → Prop} {s : Shared} {l : Addr} {items : Array Value} {Q : Value → Shared → Prop} (hL : s.heap.IsTuple l items)
    (h : ∀ h', IsEnum h' (s.heap.objs.size + 1) s.heap.objs.size 0 .none → h'.IsTupleIter s.heap.objs.size l 0 → h'.objs.size = s.heap.objs.size + 2 →
      (∀ b o, s.heap.get? b = some o → h'.get? b = some o) → Q (.ref (s.heap.objs.size + 1)) { s with heap := h' }) :
    wpAny (model prog w) A (call (.type "enumerate") [.ref l]) Q E s := by
  obtain ⟨⟨c, dct, dt, sl⟩, hl, hc, n, hd⟩ := hL
  replace hc : c = .type "tuple" := hc
  replace hd : dt = .seq items n := hd
  subst hc hd
  refine callType_new F.called_enumerate (by decide) (F.typeCall_enumerate_1 _) (F.newCall_enumerate_1 _) (fun obj => F.args_object_init_2 obj _) F.entry_enumerate_new
    (meets_enumerate_newT l items n dct sl) ⟨hl, ?_⟩
  have hz : (s.heap.push { cls := .type "tuple_iterator", data := .fields #[.ref l, .int 0 0] }).objs.size = s.heap.objs.size + 1 := Heap.size_push ..
  show _ ∧ _
  rw [hz]
  have he : IsEnum ((s.heap.push { cls := .type "tuple_iterator", data := .fields #[.ref l, .int 0 0] }).push
      { cls := .type "enumerate", data := .fields #[.none, .bool false, .ref s.heap.objs.size, rawInt 0, .none, .none] }) (s.heap.objs.size + 1) s.heap.objs.size 0 .none := by
    have := Heap.get?_push_size (s.heap.push { cls := .type "tuple_iterator", data := .fields #[.ref l, .int 0 0] })
      (o := { cls := .type "enumerate", data := .fields #[.none, .bool false, .ref s.heap.objs.size, rawInt 0, .none, .none] }) rfl
    rw [hz] at this; exact this
  refine ⟨⟨_, he, rfl⟩, h _ he ⟨_, Heap.get?_push_of_some _ (Heap.get?_push_size _ rfl), rfl, rfl⟩ (by rw [Heap.size_push, hz]) fun b o x => Heap.get?_push_of_some _ (Heap.get?_push_of_some _ x)⟩
end ET
namespace L2
open PySem PySem.Spec PyProof.Rows
def Ite (K : PySem.W.Frag) (a : Addr) : It :=
  ⟨fun i H => ∃ xs x, SqT K H a xs ∧ xs[i]? = some x,
   fun i H x H' => ∃ p v, (∀ xs, SqT K H a xs → xs[i]? = some v) ∧ H p = none ∧ x = .ref p ∧ H' = upd H p (.tup [.int i, v]),
   fun i H => ∃ xs, SqT K H a xs ∧ xs.length = i⟩
theorem turn_enumT {P : Program} {w : World} {K : PySem.W.Frag} {elts : List Expr} {k : Nat} {pos : Pos} (a e it : Addr) (hei : e ≠ it) :
    Turn P w K (.Tuple elts k pos) (Ite K a) [e, it] e (fun i h => (∃ old, IsEnum h e it i old) ∧ h.IsTupleIter it a i) where
  mem := by simp
  obj := fun i h st b hb => by
    obtain ⟨⟨old, he⟩, o, ho, hc, hd⟩ := st
    rcases List.mem_cons.mp hb with z | hb
    · subst z
      exact ⟨_, he, fun v z => by
        have z' : Data.fields _ = Data.cell v := z
        cases z'⟩
    · obtain z := List.mem_singleton.mp hb
      subst z
      exact ⟨o, ho, fun v z => by rw [hd] at z; cases z⟩
  keep := fun i h h' st kk => by
    obtain ⟨⟨old, he⟩, o, ho, r⟩ := st
    exact ⟨⟨old, kk e (by simp) _ he⟩, o, kk it (by simp) o ho, r⟩
  item := by
    intro X hP hw hK hc i pins s σ H E I hf st hg
    subst hP hw hK
    obtain ⟨xs, x, hq, hx⟩ := hg
    obtain ⟨its, rv, p, hz⟩ := I.tuple hq
    obtain ⟨u, hu, ru⟩ := rv.get hx
    obtain ⟨⟨old, he⟩, hit⟩ := st
    have ht : s.heap.IsTuple a its.toArray := p
    have hai : a ≠ it := by
      intro z
      obtain ⟨o, ho, hc1, _⟩ := id hit
      obtain ⟨o2, ho2, hc2, _⟩ := id ht
      rw [z, ho] at ho2
      cases ho2
      rw [hc1] at hc2
      exact absurd hc2 (by decide)
    have hae : a ≠ e := by
      intro z
      obtain ⟨o2, ho2, hc2, _⟩ := id ht
      have he' := he
      unfold IsEnum at he'
      rw [z, he'] at ho2
      cases ho2
      exact absurd (show Value.type "enumerate" = Value.type "tuple" from hc2) (by decide)
    have D := ET.draws_tuple (prog := X.prog) (w := X.w) (A := X.A.in1) (show X.A.in1.handled = none from I.ok.hd hc) it a hai its.toArray
    have hef : e ∉ [it, a] := by
      intro z
      rcases List.mem_cons.mp z with z | z
      · exact hei z
      · exact hae (List.mem_singleton.mp z).symm
    have W := WalksT.enumerateD D e hei hef (by simp)
    have hlt : i < its.toArray.size := by
      have h1 := (List.getElem?_eq_some_iff.mp hu).1
      simpa using h1
    refine W.item i s _ _ hlt ⟨⟨old, he⟩, hit, ht⟩ fun T vals h' tk hP hT hTup hM hk => ?_
    obtain ⟨t, y, hy, rfl⟩ := hP
    have ey : y = u := by
      have : its[i]? = some y := by simpa using hy
      rw [hu] at this
      exact (Option.some.inj this).symm
    subst ey
    have I1 : Inv X pins σ H { s with heap := h', toks := tk } := I.turnedL (ch := [e, it]) hk hf
    have hHT : H T = none := I.hok.fresh hT
    have fT : FpOk X pins H T := I.fpOk hT hHT
    refine ⟨_, rfl, ?_⟩
    refine W.go elts k pos i T { s with heap := h', toks := tk } _ _ hM fun h2 st2 hk2 => ?_
    have I2' := I1.turnedL (h' := h2) (t' := tk) (ch := [e, it]) hk2 hf
    have I2 : Inv X pins σ H { s with heap := h2, toks := tk } := I2'
    have hT2 : h2.IsTuple T #[.int i t, y] := by
      obtain ⟨o, ho, r⟩ := hTup
      exact ⟨o, hk2 T o (W.apart i T h' hM) ho, r⟩
    have I3 : Inv X pins σ (upd H T (.tup [.int i, x])) { s with heap := h2, toks := tk } :=
      I2.track fT ⟨by show 2 ≤ sizeLine; decide, [.int i t, y], .cons ⟨t, rfl⟩ (.cons ru .nil), hT2⟩
    refine ⟨.ref T, _, I3, rfl, ⟨T, x, fun ys hy' => by rw [I.tuple_inj hy' hq]; exact hx, hHT, rfl, rfl⟩, ⟨by simpa using st2.1, st2.2.1⟩, fun b hb => ?_⟩
    rw [upd_ne (fun z => W.apart i T h' hM (by rw [← z]; exact hb))]
    exact (hf b hb).1
  done := by
    intro X hP hw hK hc i pins s σ H E I hf st hg
    subst hP hw hK
    obtain ⟨xs, hq, hx⟩ := hg
    obtain ⟨its, rv, p, hz⟩ := I.tuple hq
    obtain ⟨⟨old, he⟩, hit⟩ := st
    have ht : s.heap.IsTuple a its.toArray := p
    have hai : a ≠ it := by
      intro z
      obtain ⟨o, ho, hc1, _⟩ := id hit
      obtain ⟨o2, ho2, hc2, _⟩ := id ht
      rw [z, ho] at ho2
      cases ho2
      rw [hc1] at hc2
      exact absurd hc2 (by decide)
    have hae : a ≠ e := by
      intro z
      obtain ⟨o2, ho2, hc2, _⟩ := id ht
      have he' := he
      unfold IsEnum at he'
      rw [z, he'] at ho2
      cases ho2
      exact absurd (show Value.type "enumerate" = Value.type "tuple" from hc2) (by decide)
    have D := ET.draws_tuple (prog := X.prog) (w := X.w) (A := X.A.in1) (show X.A.in1.handled = none from I.ok.hd hc) it a hai its.toArray
    have hef : e ∉ [it, a] := by
      intro z
      rcases List.mem_cons.mp z with z | z
      · exact hei z
      · exact hae (List.mem_singleton.mp z).symm
    have W := WalksT.enumerateD D e hei hef (by simp)
    have hl := rv.length
    have hn : i = its.toArray.size := by simp; omega
    refine W.done s _ _ ⟨⟨old, by rw [← hn]; exact he⟩, by rw [← hn]; exact hit, ht⟩ fun h' tk hk => ⟨rfl, ?_⟩
    exact I.turnedL (ch := [e, it]) hk hf
  self := fun _ _ _ _ _ st h => by
    obtain ⟨⟨old, he⟩, _⟩ := st
    exact wpAny_pyIter_enum he h
section
variable {X : Cx} {elts : List Expr} {k : Nat} {tpos : Pos}
def iEnum (K : PySem.W.Frag) (ta : TA) : TI := fun σ H R => ta σ H fun vs H1 => ∃ a, vs = [.ref a] ∧ (∃ xs, SqT K H1 a xs) ∧ R (Ite K a) H1
theorem pi_enumT {a : Expr} {ta : TA} {p pos : Pos} (hg : Gl X "enumerate") (hm : X.mg "enumerate" = none) (ha : PA X [a] ta) (hs : starEach [a] X.env = [(false, eval a X.env)] := by rfl) :
    PI X (.Tuple elts k tpos) (.Call (.Name "enumerate" p) [a] [] pos) (iEnum X.K ta) := by
  intro pins s σ H R I h
  refine Call_ (ld_blt I hg hm boot_enumerate (PyProof.Rows.callWith_type1 (thn (ha pos pins s σ H _ I h) fun us s1 ⟨vs, H1, I1, r1, q1⟩ => ?_) hs rfl))
  obtain ⟨a, e, ⟨xs, hq⟩, q⟩ := q1
  subst e
  cases r1 with
  | cons r rr =>
    cases rr
    cases r
    obtain ⟨its, rv, p, hz⟩ := I1.tuple hq
    refine ET.call_enumerate_tuple (show s1.heap.IsTuple a its.toArray from p) fun h' he hit hsz hk => ?_
    have I2 : Inv X pins σ H1 { s1 with heap := h' } := I1.kept (t' := s1.toks) hk
    refine wpAny_pyIter_enum he ?_
    refine ⟨s1.heap.objs.size + 1, [s1.heap.objs.size + 1, s1.heap.objs.size], _, _, H1, rfl, I2, turn_enumT a (s1.heap.objs.size + 1) s1.heap.objs.size (Nat.succ_ne_self _), ⟨⟨_, he⟩, hit⟩, fun b hb => ?_, q⟩
    have hb' : s1.heap.objs.size ≤ b := by
      rcases List.mem_cons.mp hb with z | z
      · rw [z]; exact Nat.le_succ _
      · rw [List.mem_singleton.mp z]; exact Nat.le_refl _
    exact I1.fpOk hb' (I1.hok.fresh hb')
end
theorem for_enum {K : PySem.W.Frag} {a : Addr} {xs : List V} {g : TG} {tb : TS} {D : Ends} {σ : St} {H : Hp} (Pv : Nat → St → Hp → Prop) (h0 : Pv 0 σ H) (hl : ∀ i σ H, i ≤ xs.length → Pv i σ H → SqT K H a xs)
    (hs : ∀ i x p σ H, xs[i]? = some x → Pv i σ H → H p = none → g (.ref p) σ (upd H p (.tup [.int i, x])) fun σ2 H2 => tb { D with nx := Pv (i + 1), ct := Pv (i + 1), bk := D.nx } σ2 H2) (hd : ∀ σ H, Pv xs.length σ H → D.nx σ H) :
    ∃ W : Nat → Nat → St → Hp → Prop, (∃ m, W 0 m σ H) ∧ ∀ i m σ H, W i m σ H →
      ((Ite K a).stop i H ∧ D.nx σ H) ∨ ((Ite K a).go i H ∧ ∃ N : St → Hp → Prop, (∀ σ' H', N σ' H' → ∃ m', m' < m ∧ W (i + 1) m' σ' H') ∧ ∀ x H', (Ite K a).yld i H x H' → g x σ H' fun σ2 H2 => tb { D with nx := N, ct := N, bk := D.nx } σ2 H2) := by
  refine ⟨fun i m σ H => m = xs.length - i ∧ i ≤ xs.length ∧ Pv i σ H, ⟨xs.length, by simp, Nat.zero_le _, h0⟩, ?_⟩
  rintro i m σ H ⟨rfl, hi, p⟩
  have q := hl i σ H hi p
  by_cases hlt : i < xs.length
  · refine .inr ⟨⟨xs, xs[i], q, by simp [hlt]⟩, Pv (i + 1), fun σ' H' p' => ⟨xs.length - (i + 1), by omega, rfl, hlt, p'⟩, fun x H' y => ?_⟩
    obtain ⟨pp, v, y, hn, e1, e2⟩ := y
    subst e1 e2
    exact hs i v pp σ _ (y xs q) p hn
  · have e : i = xs.length := by omega
    subst e
    exact .inl ⟨⟨xs, q, rfl⟩, hd σ H p⟩
end L2
set_option Elab.async false
set_option linter.all false
set_option maxRecDepth 100000
set_option maxHeartbeats 4000000
namespace L2
open PySem PySem.Spec PyProof.Rows
structure Cl (P : Program) (w : World) (K : PySem.W.Frag) (mg : Str → Option Value) (base : Heap) (k : Nat) (x : Str) (ps : List Str) (sp : Sp) : Prop where
  ex : ∃ f fd, FnOk P w K mg base CX0 k f fd ps sp ∧ mg x = some (.ref f) ∧ PySem.W.keepIn K (.ref f) = true ∧ Binds K fd ps []
theorem pe_fn {X : Cx} {j k : Nat} {x : Str} {ps : List Str} {sp : Sp} {e : Expr} {es : List Expr} {t : TA} {p pos : Pos} (C : Cl X.prog X.w X.K X.mg X.base j x ps sp) (hr : Room k X.A) (hg : Gl X x) (ha : PA X (e :: es) t) (hjk : j ≤ k := by decide)
    (hdb : (x == ("__debug__" : Str)) = false := by decide) (he : starEach (e :: es) X.env = (false, eval e X.env) :: starEach es X.env := by rfl) (hpl : (backTo pos (starEach es X.env)).any (·.1) = false := by rfl) :
    PE X (.Call (.Name x p) (e :: es) [] pos) (tCall sp [] E0 t) := by
  obtain ⟨f, fd, F, hm, hk, hb⟩ := C.ex
  exact pe_call F (hr.mono hjk) hg hm hk hb .nil pass0 ha hdb he hpl
def HasDef (K : PySem.W.Frag) (mg : Str → Option Value) (x : Str) (st : Stmt) : Prop := ∃ f fd, Fun K x x st f fd ∧ mg x = some (.ref f)
theorem hasDef_mk {K : PySem.W.Frag} {mg : Str → Option Value} {h : Heap} {x : Str} {st : Stmt} {f : Addr} {oc : Value} {od an : Option Addr} {osl : Array (Option Value)} {kV doc pm cdv ct : Value} (X : K.In h) (G : h.Ns mainGlobals mg)
    (a : PySem.W.nsIn K mainGlobals x = some (some (.ref f))) (l : K.lookup f = some ⟨oc, od, .func (PySem.W.fnOf x x (defArgs st) (defBody st) (defScope st) .none kV doc pm an cdv ct), osl⟩)
    (c : PySem.W.codeIn K cdv x = true) (k : PySem.W.keepIn K (.ref f) = true) : HasDef K mg x st :=
  ⟨f, _, fun_mk l c k, PySem.W.mg_of X G a⟩
theorem Cl.of {P : Program} {w : World} {K : PySem.W.Frag} {mg : Str → Option Value} {base : Heap} {x : Str} {st : Stmt} {N ps : List Str} {k : Nat} {sp : Sp} (T : HasDef K mg x st) (S : FnScope N ps (defScope st)) (len : ∀ vs H Q E, sp vs H Q E → vs.length = ps.length)
    (hb : ∀ (kV doc pm : Value) (an : Option Addr) (cdv ct : Value) (us : List Value), us.length = ps.length → bindArgs (PySem.W.fnOf x x (defArgs st) (defBody st) (defScope st) .none kV doc pm an cdv ct) ⟨us, []⟩ = pure (ps.zip us))
    (hbody : ∀ (f : Addr) (cdv : Value) (A : Around) (outer : List Env) (s : Shared) (H : Hp) (vs : List V) (Q : VK) (E : XK), Room k (A.deeper (envOfC x (defScope st) s.heap.objs.size f cdv)) → sp vs H Q E →
      ∃ t, PSs (cxOf CX0 P w K mg base N x (defScope st) f cdv A outer s H E).nox (defBody st) t ∧ t { nx := fun _ H' => Q .non H', rt := Q } (start N vs) H) : Cl P w K mg base (k + 1) x ps sp := by
  obtain ⟨f, fd, F, m⟩ := T
  exact ⟨f, fd, F.ok S len (fun cdv A outer s H vs Q E => hbody f cdv A outer s H vs Q E), m, F.kp, F.binds hb⟩
def Tups (H H' : Hp) : Prop := ∀ b xs, H b = some (.tup xs) → H' b = some (.tup xs)
section
variable {H H1 H2 : Hp} {l p : Addr} {o : HO} {xs ys : List V}
theorem Same.tups (e : Same H H1) : Tups H H1 := fun b xs q => e b _ q
theorem Tups.refl (H : Hp) : Tups H H := fun _ _ q => q
theorem Tups.trans (a : Tups H H1) (b : Tups H1 H2) : Tups H H2 := fun c xs q => b c xs (a c xs q)
theorem Tups.lst (h : H l = some (.lst xs)) : Tups H (upd H l (.lst ys)) := fun b zs q => by
  rw [upd_ne (ne_of q h (by intro z; cases z))]; exact q
theorem Tups.new (h : H p = none) : Tups H (upd H p o) := fun b zs q => by
  rw [upd_ne (ne_of_none q h)]; exact q
theorem Same.put (s : Same H H1) (h : H l = none) : Same H (upd H1 l o) := fun b u q => by
  rw [upd_ne (ne_of_none q h)]; exact s b u q
theorem Same.new (s : Same H H1) (h : H1 p = none) : Same H (upd H1 p o) := s.put (s.free h)
theorem upd_keep {u : HO} (h : H l = some u) (hp : H p = none) : upd H p o l = some u := by
  rw [upd_ne (ne_of_none h hp)]; exact h
end
theorem atI_getD {α : Type} (xs : List α) (d : α) {i : Int} (h0 : 0 ≤ i) (h1 : i < (xs.length : Int)) : atI xs i = some (xs.getD i.toNat d) := by
  have e : i = ((i.toNat : Nat) : Int) := by omega
  have hl : i.toNat < xs.length := by omega
  have hx : xs[i.toNat]? = some (xs.getD i.toNat d) := by
    rw [List.getD_eq_getElem?_getD]
    simp [hl]
  have := atI_nat hx
  rw [← e] at this
  exact this
theorem atI_mem {α : Type} (xs : List α) {i : Int} (h0 : 0 ≤ i) (h1 : i < (xs.length : Int)) : ∃ v, v ∈ xs ∧ atI xs i = some v := by
  have e : i = ((i.toNat : Nat) : Int) := by omega
  have hl : i.toNat < xs.length := by omega
  have hx : xs[i.toNat]? = some xs[i.toNat] := by simp [hl]
  refine ⟨xs[i.toNat], List.getElem_mem hl, ?_⟩
  have := atI_nat hx
  rw [← e] at this
  exact this
theorem atI_menu (ys : List Str) {i : Int} (h0 : 0 ≤ i) (h1 : i < (ys.length : Int)) : ∃ y, y ∈ ys ∧ atI (ys.map V.str) i = some (.str y) := by
  obtain ⟨v, hv, e⟩ := atI_mem (ys.map V.str) h0 (by simpa using h1)
  obtain ⟨y, hy, rfl⟩ := List.mem_map.mp hv
  exact ⟨y, hy, e⟩
theorem atI_map {α : Type} (f : α → V) (xs : List α) (d : α) {i : Int} (h0 : 0 ≤ i) (h1 : i < (xs.length : Int)) : atI (xs.map f) i = some (f (xs.getD i.toNat d)) := by
  have := atI_getD (xs.map f) (f d) h0 (by simpa using h1)
  rw [this, List.getD_eq_getElem?_getD, List.getElem?_map, List.getD_eq_getElem?_getD]
  have hl : i.toNat < xs.length := by omega
  simp [hl]
theorem iteSE {x : Str} {A B : Prop} (h : A) : if decide (V.str x = V.str x) = true then A else B := by
  rw [if_pos (decide_eq_true rfl)]; exact h
theorem iteSN {x y : Str} {A B : Prop} (e : ¬ x = y) (h : B) : if decide (V.str x = V.str y) = true then A else B := by
  rw [if_neg (by rw [decide_eq_false (fun q => e (V.str.inj q))]; exact Bool.false_ne_true)]; exact h
theorem ite2I {i j : Int} {A B : Prop} (h1 : i = j → A) (h2 : ¬ i = j → B) : if decide (V.int i = V.int j) = true then A else B :=
  ite2 (fun h => h1 (V.int.inj (of_decide_eq_true h))) fun h => h2 fun e => h (decide_eq_true (congrArg V.int e))
theorem neIF {i : Int} {A B : Prop} (h : B) : if (!decide (V.int i = V.int i)) = true then A else B := iteNS rfl h
theorem kit_same (K : PySem.W.Frag) (T : String) : PySem.W.kitOne K (.type T) (.type T) = some true := by
  unfold PySem.W.kitOne
  rw [if_pos (by simp)]
theorem kit_int_bool (K : PySem.W.Frag) : PySem.W.kitOne K (.type "int") (.type "bool") = some false := by kernel_rfl
def isLet (c : Nat) : Bool := decide (97 ≤ c) && decide (c ≤ 122)
def isFig (c : Nat) : Bool := decide (48 ≤ c) && decide (c ≤ 57)
def isSg (c : Nat) : Bool := isLet c || isFig c
def isNm : List Nat → Bool
  | [] => false
  | c :: r => isLet c && r.all isSg && decide (r.length ≤ 7)
def NameOk (x : Str) : Prop := isNm x.cps.toList = true
instance (x : Str) : Decidable (NameOk x) := inferInstanceAs (Decidable (_ = true))
inductive Th where
  | num (n : Int)
  | nam (x : Str)
def thV : Th → V
  | .num n => .int n
  | .nam x => .str x
def ThOk : Th → Prop
  | .num n => 0 ≤ n ∧ n < 10 ^ 60
  | .nam x => NameOk x
def TermAt (H : Hp) (v : V) (t : Int × Th) : Prop := ∃ p, v = .ref p ∧ H p = some (.tup [.int t.1, thV t.2]) ∧ ThOk t.2
abbrev Terms (H : Hp) : List V → List (Int × Th) → Prop := Paired (TermAt H)
theorem Paired.get? {α β : Type} {F : α → β → Prop} : ∀ {xs : List α} {ys : List β} {i : Nat} {x : α}, Paired F xs ys → xs[i]? = some x → ∃ y, ys[i]? = some y ∧ F x y
  | _, _, _, _, .nil, e => by simp at e
  | _, _, 0, _, .cons r _, e => by simp at e; subst e; exact ⟨_, rfl, r⟩
  | _, _, i + 1, x, .cons _ t, e => by
    obtain ⟨u, h1, h2⟩ := Paired.get? (i := i) (x := x) t (by simpa using e)
    exact ⟨u, by simpa using h1, h2⟩
theorem TermAt.mono {H H' : Hp} (s : Tups H H') {v : V} {t : Int × Th} (h : TermAt H v t) : TermAt H' v t := by
  obtain ⟨p, e, h, o⟩ := h
  exact ⟨p, e, s p _ h, o⟩
theorem Terms.mono {H H' : Hp} (s : Tups H H') {vs : List V} {ts : List (Int × Th)} (h : Terms H vs ts) : Terms H' vs ts := Paired.mapP h fun _ _ q => q.mono s
structure TermsAt (H : Hp) (t : Addr) (ts : List (Int × Th)) : Prop where
  ex : ∃ vs, H t = some (.tup vs) ∧ Terms H vs ts
  lo : 1 ≤ ts.length
  hi : ts.length ≤ 6
theorem TermsAt.mono {H H' : Hp} (s : Tups H H') {t : Addr} {ts : List (Int × Th)} (h : TermsAt H t ts) : TermsAt H' t ts := by
  obtain ⟨⟨vs, h1, h2⟩, lo, hi⟩ := h
  exact ⟨⟨vs, s t _ h1, h2.mono s⟩, lo, hi⟩
theorem take_succ_get {α : Type} {l : List α} {i : Nat} {x : α} (h : l[i]? = some x) : l.take (i + 1) = l.take i ++ [x] := by
  rw [List.take_succ, h]; rfl
end L2
set_option Elab.async false
set_option linter.all false
set_option maxRecDepth 100000
set_option maxHeartbeats 4000000
namespace L2
open PySem PySem.Spec PyProof.Rows
theorem strsAre_of {ys : List Str} : ∀ {us : List Value}, Vals (ys.map V.str) us → StrsAre us ys := by
  induction ys with
  | nil => intro us r; cases r; exact .nil
  | cons y r ih =>
    intro us h
    cases h with
    | cons h1 h2 =>
      obtain ⟨t, rfl⟩ := h1
      exact .cons y t (ih h2)
section
variable {X : Cx}
theorem mt_join : MtR X "str.join" (fun x vs H Q => ∃ sep p ys, x = .str sep ∧ vs = [.ref p] ∧ (SqT X.K H p (ys.map V.str) ∨ SqL X.K H p (ys.map V.str)) ∧ sep.length ≤ 16 ∧ (ys.map (·.length)).sum + ys.length ≤ 1048576 ∧ Q (.str (Str.join sep ys)) H) := by
  intro pins s σ H x xs v us Q I rx rs h
  obtain ⟨sep, p, ys, rfl, rfl, hq, hs, hw, q⟩ := h
  obtain ⟨t, rfl⟩ := rx
  obtain ⟨u, rfl, ru⟩ := vals1 rs
  cases ru
  rcases hq with hq | hq
  · obtain ⟨its, r', pl, hz⟩ := I.tuple hq
    exact join_tupleW pl (strsAre_of r') hs hw fun t' k => ⟨.str (Txt.join sep ys), H, I.tok _, ⟨_, rfl⟩, by rw [show Txt.join sep ys = Str.join sep ys from StrLaws.glued_eq_join sep ys]; exact q⟩
  · obtain ⟨its, r', pl, hz⟩ := I.list hq
    exact join_listW pl.isList (strsAre_of r') hs hw fun t' k => ⟨.str (Txt.join sep ys), H, I.tok _, ⟨_, rfl⟩, by rw [show Txt.join sep ys = Str.join sep ys from StrLaws.glued_eq_join sep ys]; exact q⟩
end
theorem str_ext {x y : Str} (h : x.cps.toList = y.cps.toList) : x = y := by
  obtain ⟨⟨a⟩⟩ := x
  obtain ⟨⟨b⟩⟩ := y
  have h' : a = b := h
  rw [h']
section
variable {X : Cx}
theorem log_ok {n : Int} (h1 : 0 ≤ n) (h2 : n < 10 ^ 60) : n.natAbs.log2 < 1920 := by
  have h3 : n.natAbs < 2 ^ 1920 := by
    have : n.natAbs < 10 ^ 60 := by omega
    exact Nat.lt_of_lt_of_le this (by decide)
  by_cases hz : n.natAbs = 0
  · rw [hz]; decide
  · exact (Nat.log2_lt hz).mpr h3
end
end L2
set_option Elab.async false
set_option linter.all false
set_option maxRecDepth 100000
set_option maxHeartbeats 4000000
namespace L2
open PySem PySem.Spec PyProof.Rows
def closL (cells : List (Str × Addr)) : List (Str × NameKind) → List (Str × Addr) → List (Str × Addr)
  | [], cs => cs
  | (n, k) :: r, cs => closL cells r (if k == .free then (n, (cells.lookup n).getD 0) :: cs else cs)
theorem closL_pure {cells : List (Str × Addr)} {env : Env} (he : env.cells = cells) : ∀ (l : List (Str × NameKind)) (cs : List (Str × Addr)), (∀ y ∈ l, y.2 = .free → ∃ c, cells.lookup y.1 = some c) →
    (forIn l cs fun p cs => (do if p.2 == .free then (do let a ← cellOf env p.1; pure (ForInStep.yield ((p.1, a) :: cs))) else pure (ForInStep.yield cs) : Sem (ForInStep (List (Str × Addr))))) = pure (closL cells l cs) := by
  intro l
  induction l with
  | nil => intro cs _; rfl
  | cons p r ih =>
    intro cs h
    obtain ⟨n, k⟩ := p
    rw [List.forIn_cons]
    have hr : ∀ y ∈ r, y.2 = .free → ∃ c, cells.lookup y.1 = some c := fun y hy => h y (List.mem_cons_of_mem _ hy)
    by_cases hk : k = .free
    · subst hk
      obtain ⟨c, hc⟩ := h (n, .free) List.mem_cons_self rfl
      have hc' : env.cells.lookup n = some c := by rw [he]; exact hc
      have e : cellOf env n = pure c := by unfold cellOf; rw [hc']
      simp only [beq_self_eq_true, if_true, e, pure_bind]
      rw [ih _ hr]
      unfold closL
      rw [if_pos (by simp), show (cells.lookup n).getD 0 = c by rw [show cells.lookup n = some c from hc]; rfl]
      conv => rhs; unfold closL
    · have hb : (k == NameKind.free) = false := by simpa using hk
      simp only [hb, Bool.false_eq_true, if_false, pure_bind]
      rw [ih _ hr]
      conv => rhs; unfold closL
      rw [if_neg (by rw [hb]; exact Bool.false_ne_true)]
theorem closL_lookup {cells : List (Str × Addr)} {x : Str} {c : Addr} : ∀ (l : List (Str × NameKind)) (cs : List (Str × Addr)), (∀ y ∈ l, y.2 = .free → ∃ c, cells.lookup y.1 = some c) → (closL cells l cs).lookup x = some c → cells.lookup x = some c ∨ cs.lookup x = some c
  | [], cs, _, h => .inr h
  | (n, k) :: r, cs, hy, h => by
    unfold closL at h
    rcases closL_lookup r _ (fun y q => hy y (List.mem_cons_of_mem _ q)) h with h | h
    · exact .inl h
    · by_cases hk : k = .free
      · subst hk
        obtain ⟨c', hc⟩ := hy (n, .free) List.mem_cons_self rfl
        have hc : cells.lookup n = some c' := hc
        rw [if_pos (by simp), List.lookup_cons] at h
        split at h
        · rename_i e
          have e' : x = n := by simpa using e
          subst e'
          rw [hc] at h
          cases h
          exact .inl hc
        · exact .inr h
      · rw [if_neg (by simpa using hk)] at h
        exact .inr h
theorem closL_keep {cells : List (Str × Addr)} {x : Str} : ∀ (l : List (Str × NameKind)) (cs : List (Str × Addr)), (∃ c, cs.lookup x = some c) → ∃ c, (closL cells l cs).lookup x = some c
  | [], _, h => h
  | (n, k) :: r, cs, h => by
    unfold closL
    refine closL_keep r _ ?_
    split
    · rw [List.lookup_cons]
      split
      · exact ⟨_, rfl⟩
      · exact h
    · exact h
theorem closL_has {cells : List (Str × Addr)} {x : Str} : ∀ (l : List (Str × NameKind)) (cs : List (Str × Addr)), (x, NameKind.free) ∈ l → ∃ c, (closL cells l cs).lookup x = some c
  | (n, k) :: r, cs, h => by
    unfold closL
    rcases List.mem_cons.mp h with e | h
    · cases e
      refine closL_keep r _ ?_
      rw [if_pos (by simp), List.lookup_cons]
      simp
    · exact closL_has r _ h
theorem closure_pure {sc : Scope} {env : Env} (h : ∀ y ∈ sc.names, y.2 = .free → ∃ c, env.cells.lookup y.1 = some c) : closureFor sc env = pure (closL env.cells sc.names []) := by
  have := closL_pure (env := env) rfl sc.names [] h
  unfold closureFor
  simp only [bind_pure]
  exact this
theorem relabel_free {env : Env} {x : Str} : ∀ {names : List (Str × NameKind)}, names.lookup x = some .free →
    (names.map fun (n, k) => if (k == NameKind.free && env.scope.kind == .function && env.kindOf n == some .cell) then (n, NameKind.cell) else (n, k)).lookup x = some .cell ∨
    (names.map fun (n, k) => if (k == NameKind.free && env.scope.kind == .function && env.kindOf n == some .cell) then (n, NameKind.cell) else (n, k)).lookup x = some .free
  | [], h => by simp at h
  | (n, k) :: r, h => by
    have ih := @relabel_free env x r
    simp only [List.map_cons]
    by_cases hc : (k == NameKind.free && env.scope.kind == .function && env.kindOf n == some .cell) = true
    · rw [if_pos hc]
      simp only [List.lookup_cons] at h ⊢
      cases hx : x == n with
      | true => exact .inl rfl
      | false => simp only [hx] at h ⊢; exact ih h
    · rw [if_neg hc]
      simp only [List.lookup_cons] at h ⊢
      cases hx : x == n with
      | true => simp only [hx] at h ⊢; exact .inr h
      | false => simp only [hx] at h ⊢; exact ih h
theorem relabel_back {env : Env} {x : Str} : ∀ {names : List (Str × NameKind)},
    (names.map fun (n, k) => if (k == NameKind.free && env.scope.kind == .function && env.kindOf n == some .cell) then (n, NameKind.cell) else (n, k)).lookup x = some .cell ∨
    (names.map fun (n, k) => if (k == NameKind.free && env.scope.kind == .function && env.kindOf n == some .cell) then (n, NameKind.cell) else (n, k)).lookup x = some .free →
    (x, NameKind.free) ∈ names ∨ (x, NameKind.cell) ∈ names
  | [], h => by simp at h
  | (n, k) :: r, h => by
    have ih := @relabel_back env x r
    simp only [List.map_cons] at h
    have tl : (x, NameKind.free) ∈ r ∨ (x, NameKind.cell) ∈ r → (x, NameKind.free) ∈ (n, k) :: r ∨ (x, NameKind.cell) ∈ (n, k) :: r := fun q => q.imp (List.mem_cons_of_mem _) (List.mem_cons_of_mem _)
    by_cases hc : (k == NameKind.free && env.scope.kind == .function && env.kindOf n == some .cell) = true
    · rw [if_pos hc] at h
      have hk : k = .free := by
        simp only [Bool.and_eq_true] at hc
        simpa using hc.1.1
      simp only [List.lookup_cons] at h
      cases hx : x == n with
      | true =>
        have e : x = n := by simpa using hx
        subst e hk
        exact .inl List.mem_cons_self
      | false => simp only [hx] at h; exact tl (ih h)
    · rw [if_neg hc] at h
      simp only [List.lookup_cons] at h
      cases hx : x == n with
      | true =>
        have e : x = n := by simpa using hx
        subst e
        simp only [hx] at h
        rcases h with h | h
        · cases h; exact .inr List.mem_cons_self
        · cases h; exact .inl List.mem_cons_self
      | false => simp only [hx] at h; exact tl (ih h)
structure CompScope (osc : Scope) (N : List Str) (sc : Scope) (M : List Str) (ρ : List (Option Nat)) : Prop where
  kind : sc.kind = .function
  nocell : ∀ y ∈ sc.names, y.2 ≠ .cell
  own : ∀ y ∈ sc.names, y.2 = .local → sc.names.lookup y.1 = some .local
  fre : ∀ y ∈ sc.names, y.2 = .free → osc.names.lookup y.1 = some .cell ∨ osc.names.lookup y.1 = some .free
  len : ρ.length = M.length
  ren : ∀ p ∈ ρ.zip M, (match p.1 with | none => true | some i => decide (N[i]? = some p.2 ∧ sc.names.lookup p.2 = some .free)) = true
  nd : M.Nodup
def subS (ρ : List (Option Nat)) (σ : St) : St := ρ.map fun o => match o with | none => none | some i => (σ[i]?).join
def cxComp (X : Cx) (sc : Scope) (cl : List (Str × Addr)) (C : Addr) (M : List Str) (s : Shared) (H : Hp) (fp : List Addr) (xe : Value → Shared → Prop) : Cx where
  prog := X.prog
  w := X.w
  K := X.K
  mg := X.mg
  base := X.base
  A := X.A
  N := M
  s₀ := s
  H₀ := H
  env := compEnvC sc cl C X.env
  outer := X.stack
  stack := X.stack
  ex := fp
  fn := fun _ => false
  calm := X.calm
  pn := []
  xe := xe
theorem comp_loop {P : Program} {w : World} {A : Around} {R : Result → Shared → Prop} {s : Shared} {elt tg iter : Expr} {ifs : List Expr} {sc : Scope} {pos : Pos} {it acc : Value} {env : Env} (J : Nat → Shared → Prop)
    (turn : ∀ n s, J n s → wpAny (model P w) A (pyNext it) (fun r s1 => match r with
      | none => R (.ok .next) s1
      | some v => wpAny (model P w) A (letOwnedTupleGo tg it v) (fun _ s2 => wpAny (model P w) A (assign tg env v) (fun _ s3 =>
          wpAny (model P w) A (forIn ifs true fun c r => if r = true then do let ok ← isTrue c env (eval c env); pure (ForInStep.yield ok) else pure (ForInStep.yield r)) (fun ok s4 =>
            if ok = true then wpAny (model P w) A (eval elt env) (fun x s5 => wpAny (model P w) A (call (.builtin "list.append") [acc, x]) (fun _ s6 => ∃ m, m < n ∧ J m s6) (notedBy (model P w) A env fun e s' => R (.error e) s') s5)
              (notedBy (model P w) A env fun e s' => R (.error e) s') s4
            else ∃ m, m < n ∧ J m s4) (notedBy (model P w) A env fun e s' => R (.error e) s') s3) (notedBy (model P w) A env fun e s' => R (.error e) s') s2) (notedBy (model P w) A env fun e s' => R (.error e) s') s1)
      (notedBy (model P w) A env fun e s' => R (.error e) s') s)
    (n : Nat) (h : J n s) : codeAny (model P w) A (.compLoop (.ListComp elt [⟨tg, iter, ifs, 0⟩] sc pos) 0 it acc env) R s := by
  refine codeAny_loop rfl J (fun n s hJ => ?_) n h
  show wpAny (model P w) A ((compTurn (.ListComp elt [⟨tg, iter, ifs, 0⟩] sc pos) 0 it acc env).onRaise fun x => do noteFrame x env; theTreesLotGoes x) _ _ s
  refine wpAny_noted ?_
  rw [compTurn_list]
  refine wpAny_bind (wpAny_standAt (wpAny_bind (thn (turn n s hJ) fun r s1 h1 => ?_)))
  cases r with
  | none => exact wpAny_pure h1
  | some v =>
    refine wpAny_bind (thn h1 fun _ s2 h2 => wpAny_bind (thn h2 fun _ s3 h3 => wpAny_bind (thn h3 fun ok s4 h4 => ?_)))
    cases ok with
    | false => exact wpAny_pure ⟨rfl, h4⟩
    | true => exact wpAny_bind (wpAny_bind (thn h4 fun x s5 h5 => wpAny_bind (thn h5 fun _ s6 h6 => wpAny_pure (wpAny_pure ⟨rfl, h6⟩))))
def PTs (X : Cx) (ifs : List Expr) (t : TT) : Prop :=
  ∀ (pins : List (Addr × Obj)) (s : Shared) (σ : St) (H : Hp) (Q : Bool → Hp → Prop), Inv X pins σ H s → t σ H Q →
    wpAny (model X.prog X.w) X.A (forIn ifs true fun c r => if r = true then do let ok ← isTrue c X.env (eval c X.env); pure (ForInStep.yield ok) else pure (ForInStep.yield r)) (TP X pins σ Q) X.xe s
def tNoTest : TT := fun _ H Q => Q true H
theorem nt {σ : St} {H : Hp} {A B : Hp → Prop} (h : A H) : tNoTest σ H (fun b H5 => if b = true then A H5 else B H5) := by
  show if true = true then A H else B H
  exact iteT h
theorem ntG {i : Nat} {v : V} {σ : St} {H : Hp} {A B : St → Hp → Prop} (h : A (σ.set i (some v)) H) : gName i v σ H (fun σ4 H4 => tNoTest σ4 H4 fun b H5 => if b = true then A σ4 H5 else B σ4 H5) := by
  show if true = true then A (σ.set i (some v)) H else B (σ.set i (some v)) H
  exact iteT h
theorem pts_nil {X : Cx} : PTs X [] tNoTest := fun _ _ _ H _ I h => wpAny_tests_nil ⟨H, I, h⟩
theorem pts_one {X : Cx} {c : Expr} {t : TT} (h : PT X c t) : PTs X [c] t := fun pins s σ H Q I q => wpAny_tests_one (h pins s σ H Q I q)
def tComp (wi : TI) (ρ : List (Option Nat)) (g : TG) (tt : TT) (te : TE) : TE := fun σ H Q => wi σ H fun J H1 => ∀ D, H1 D = none → ∃ W : Nat → Nat → St → Hp → Prop, (∃ m, W 0 m (subS ρ σ) (upd H1 D (.lst []))) ∧ ∀ i m σ2 H2, W i m σ2 H2 →
  (J.stop i H2 ∧ Q (.ref D) H2) ∨ (J.go i H2 ∧ ∃ N : St → Hp → Prop, (∀ σ' H', N σ' H' → ∃ m', m' < m ∧ W (i + 1) m' σ' H') ∧ ∀ x H3, J.yld i H2 x H3 → g x σ2 H3 fun σ4 H4 => tt σ4 H4 fun b H5 =>
    if b = true then te σ4 H5 fun y H6 => ∃ ys, H6 D = some (.lst ys) ∧ ys.length < sizeLine ∧ N σ4 (upd H6 D (.lst (ys ++ [y])))
    else N σ4 H5)
theorem comp_by {J : It} {g : TG} {tt : TT} {te : TE} {Q : Hp → Prop} {σ : St} {H : Hp} {D : Addr} (n : Nat) (Pv : Nat → St → Hp → Prop) (h0 : Pv 0 σ (upd H D (.lst [])))
    (hs : ∀ i σ2 H2, i < n → Pv i σ2 H2 → J.go i H2 ∧ ∀ x H3, J.yld i H2 x H3 → g x σ2 H3 fun σ4 H4 => tt σ4 H4 fun b H5 =>
      if b = true then te σ4 H5 fun y H6 => ∃ ys, H6 D = some (.lst ys) ∧ ys.length < sizeLine ∧ Pv (i + 1) σ4 (upd H6 D (.lst (ys ++ [y]))) else Pv (i + 1) σ4 H5)
    (hd : ∀ σ2 H2, Pv n σ2 H2 → J.stop n H2 ∧ Q H2) :
    ∃ W : Nat → Nat → St → Hp → Prop, (∃ m, W 0 m σ (upd H D (.lst []))) ∧ ∀ i m σ2 H2, W i m σ2 H2 →
      (J.stop i H2 ∧ Q H2) ∨ (J.go i H2 ∧ ∃ N : St → Hp → Prop, (∀ σ' H', N σ' H' → ∃ m', m' < m ∧ W (i + 1) m' σ' H') ∧ ∀ x H3, J.yld i H2 x H3 → g x σ2 H3 fun σ4 H4 => tt σ4 H4 fun b H5 =>
        if b = true then te σ4 H5 fun y H6 => ∃ ys, H6 D = some (.lst ys) ∧ ys.length < sizeLine ∧ N σ4 (upd H6 D (.lst (ys ++ [y]))) else N σ4 H5) := by
  refine ⟨fun i m σ H => m = n - i ∧ i ≤ n ∧ Pv i σ H, ⟨n, by simp, Nat.zero_le _, h0⟩, ?_⟩
  rintro i m σ2 H2 ⟨rfl, hi, p⟩
  by_cases hlt : i < n
  · obtain ⟨h1, h2⟩ := hs i σ2 H2 hlt p
    exact .inr ⟨h1, Pv (i + 1), fun σ' H' p' => ⟨n - (i + 1), by omega, rfl, hlt, p'⟩, h2⟩
  · have e : i = n := by omega
    subst e
    exact .inl (hd σ2 H2 p)
section
variable {X : Cx} {tg elt iter : Expr} {ifs : List Expr} {sc : Scope} {pos : Pos} {M : List Str} {ρ : List (Option Nat)} {wi : TI} {g : TG} {tt : TT} {te : TE}
theorem comp_block (osc : Scope) (hosc : X.env.scope = osc) (N : List Str) (hN : X.N = N) (S : CompScope osc N sc M ρ) (hc : X.calm = true)
    (hg : ∀ cl C s H fp xe, PG (cxComp X sc cl C M s H fp xe) tg g) (ht : ∀ cl C s H fp xe, PTs (cxComp X sc cl C M s H fp xe) ifs tt) (he : ∀ cl C s H fp xe, PE (cxComp X sc cl C M s H fp xe) elt te)
    {pins : List (Addr × Obj)} {σ : St} {H : Hp} {s : Shared} {itv : Value} {Q : VK} {RR : Value → Addr → Result → Shared → Prop} (I : Inv X pins σ H s)
    (h2 : PIE X pins σ tg (fun J H1 => ∀ D, H1 D = none → ∃ W : Nat → Nat → St → Hp → Prop, (∃ m, W 0 m (subS ρ σ) (upd H1 D (.lst []))) ∧ ∀ i m σ2 H2, W i m σ2 H2 →
      (J.stop i H2 ∧ Q (.ref D) H2) ∨ (J.go i H2 ∧ ∃ N : St → Hp → Prop, (∀ σ' H', N σ' H' → ∃ m', m' < m ∧ W (i + 1) m' σ' H') ∧ ∀ x H3, J.yld i H2 x H3 → g x σ2 H3 fun σ4 H4 => tt σ4 H4 fun b H5 =>
        if b = true then te σ4 H5 fun y H6 => ∃ ys, H6 D = some (.lst ys) ∧ ys.length < sizeLine ∧ N σ4 (upd H6 D (.lst (ys ++ [y])))
        else N σ4 H5)) itv s)
    (hR : ∀ (D C : Addr) (H' : Hp) (s' : Shared) (mC : Str → Option Value), Inv X pins σ H' s' → s'.heap.Ns C mC → FpOk X pins H' C → Q (.ref D) H' → RR (.ref D) C (.ok .next) s') :
    wpAny (model X.prog X.w) X.A (newList []) (fun acc s3 => wpAny (model X.prog X.w) X.A (newFunctionEnv sc X.env.globals (closL X.env.cells sc.names []) [] X.env.qual none .none (some X.env)) (fun cenv s4 =>
      codeAny (model X.prog X.w) X.A (.compStart (.ListComp elt [⟨tg, iter, ifs, 0⟩] sc pos) 0 itv acc { cenv with scope := relabel sc X.env }) (RR acc cenv.locals) s4) X.xe s3) X.xe s := by
  subst hosc hN
  obtain ⟨it, fp, tn, J, H2, rfl, I2, T, st2, f2, q2⟩ := h2
  have hcells : ∀ y ∈ sc.names, y.2 = .free → ∃ c, X.env.cells.lookup y.1 = some c := fun y hy hf => I2.ok.has y.1 (S.fre y hy hf)
  have hclx : ∀ {x c}, (closL X.env.cells sc.names []).lookup x = some c → X.env.cells.lookup x = some c := fun {x c} e => (closL_lookup _ _ hcells e).elim id fun z => by simp at z
  generalize hcl : closL X.env.cells sc.names [] = cl at hclx ⊢
  refine wpAny_newObj_type (wpAny_newFunctionEnv S.nocell (by intro y hy; simp at hy) (fun h1 hns hsb => ?_) S.kind)
  dsimp only at hns hsb ⊢
  generalize hG : s.heap.push { cls := .type "list", dict := none, data := .seq ([] : List Value).toArray } = G at hns hsb ⊢
  have hC : G.objs.size = s.heap.objs.size + 1 := by rw [← hG, Heap.size_push]
  have old : ∀ b o, s.heap.get? b = some o → h1.get? b = some o := fun b o e =>
    hsb.extBut b o (Nat.ne_of_lt (by rw [hC]; exact Nat.lt_succ_of_lt (Heap.lt_size e))) (Heap.get?_push_of_some _ (hG ▸ Heap.get?_push_of_some _ e))
  have hD1 : h1.get? s.heap.objs.size = some { cls := .type "list", dict := none, data := .seq ([] : List Value).toArray } :=
    hsb.extBut _ _ (by rw [hC]; exact Nat.ne_of_lt (Nat.lt_succ_self _)) (Heap.get?_push_of_some _ (hG ▸ Heap.get?_push_size _ rfl))
  have hDn : H2 s.heap.objs.size = none := I2.hok.fresh (Nat.le_refl _)
  obtain ⟨W, ⟨m0, w0⟩, turn⟩ := q2 s.heap.objs.size hDn
  have hCle : s.heap.objs.size ≤ G.objs.size := by rw [hC]; exact Nat.le_succ _
  have hCD : G.objs.size ≠ s.heap.objs.size := by rw [hC]; exact Nat.succ_ne_self _
  generalize hxe : notedBy (model X.prog X.w) X.A (compEnvC sc cl G.objs.size X.env) (fun e s' => RR (.ref s.heap.objs.size) G.objs.size (.error e) s') = xe
  have fpC : ∀ b ∈ fp, b ≠ G.objs.size := fun b hb => by
    obtain ⟨o, e, _⟩ := T.obj 0 _ st2 b hb
    have := Heap.lt_size e
    exact Nat.ne_of_lt (Nat.lt_of_lt_of_le this hCle)
  have fpS : ∀ b ∈ fp, b ∉ frs X.stack := fun b hb z => by
    obtain ⟨f0, f1, f3, _⟩ := f2 b hb
    rcases List.mem_cons.mp (I2.stkSub b z) with e | e
    · exact f1 e
    · exact f3 e
  have hok : (cxComp X sc cl G.objs.size M s H2 fp xe).Ok := by
    refine ⟨I2.ok.mod, S.kind, I2.ok.glob, I2.ok.blt, hCle, fun x y c e1 e2 => I2.ok.inj x y c (hclx e1) (hclx e2), fun x hx => ?_, (fun x c e _ => absurd (show false = true from e) Bool.false_ne_true), I2.ok.hd, I2.ok.frames, .inl rfl, fun b hb => ⟨fpC b hb, fun x c e => (f2 b hb).2.2.2.2.1 x c (hclx e)⟩,
      I2.bs, Nat.le_trans I2.ok.bsz I2.sz, fun b o e hb => ?_, fpS, I2.stack, I2.stkFree⟩
    · rcases relabel_back (names := sc.names) (env := X.env) hx with q | q
      · rw [← hcl]; exact closL_has _ _ q
      · exact absurd rfl (S.nocell _ q)
    · rcases (f2 b hb).2.2.2.1 with z | z
      · exact I2.ok.noex b o e z
      · exact absurd (Nat.lt_of_lt_of_le (Heap.lt_size e) (Nat.le_trans I2.ok.bsz z)) (Nat.lt_irrefl _)
  have I4 : Inv (cxComp X sc cl G.objs.size M s H2 fp xe) [] (subS ρ σ) (upd H2 s.heap.objs.size (.lst [])) { s with heap := h1, toks := s.toks + ([] : List (Str × Value)).length } := by
    refine ⟨hok, rfl, I2.bare, Un.laid old (Nat.le_refl _) hDn, ⟨_, hns, fun j x v e1 e2 _ => ?_⟩, fun x c e => ?_, ?_, fun x c e => ?_, fun p hp => absurd (show p ∈ ([] : List (Addr × Obj)) from hp) (by simp), I2.hok.laid old (Nat.le_refl _) ⟨by show 0 ≤ sizeLine; decide, [], 0, .nil, hD1⟩, ?_⟩
    · unfold subS at e2
      rw [List.getElem?_map] at e2
      cases q : ρ[j]? with
      | none => rw [q] at e2; cases e2
      | some o =>
        rw [q] at e2
        cases o with
        | none => cases e2
        | some i =>
          have e2' : (σ[i]?).join = some v := Option.some.inj e2
          have e3 : σ[i]? = some (some v) := by
            cases z : σ[i]? with
            | none => rw [z] at e2'; cases e2'
            | some y => rw [z] at e2'; cases y with
              | none => cases e2'
              | some y => cases e2'; rfl
          have hz : (ρ.zip M)[j]? = some (some i, x) := List.getElem?_zip_eq_some.mpr ⟨q, e1⟩
          have hr := S.ren (some i, x) (List.mem_of_getElem? hz)
          obtain ⟨r1, r2⟩ := of_decide_eq_true hr
          obtain ⟨m, hn, hl⟩ := I2.loc
          have hfr := S.fre _ (PySem.mem_of_lookup r2) rfl
          obtain ⟨u, ru, lk⟩ := hl i x v r1 e3 (hfr.elim (fun z => .inr (.inl z)) fun z => .inr (.inr z))
          refine ⟨u, ru, ?_⟩
          rcases lk with ⟨k, _⟩ | ⟨_, c, hcc, cell⟩
          · have k' : X.env.scope.names.lookup x = some .local := k
            rcases hfr with z | z
            · rw [k'] at z; cases z
            · rw [k'] at z; cases z
          · obtain ⟨c', hc'⟩ := closL_has (cells := X.env.cells) sc.names [] (PySem.mem_of_lookup r2)
            rw [hcl] at hc'
            have := hclx hc'
            rw [hcc] at this
            cases this
            obtain ⟨oc, ho, hd⟩ := cell
            exact .inr ⟨relabel_free r2, _, hc', oc, old _ _ ho, hd⟩
    · obtain ⟨v, oc, ho, hd⟩ := I2.cell x c (hclx e)
      exact ⟨v, oc, old _ _ ho, hd⟩
    · show upd H2 s.heap.objs.size (.lst []) G.objs.size = none
      rw [upd_ne hCD]
      exact I2.hok.fresh hCle
    · show upd H2 s.heap.objs.size (.lst []) c = none
      obtain ⟨v, oc, ho, hd⟩ := I2.cell x c (hclx e)
      rw [upd_ne (Nat.ne_of_lt (Heap.lt_size ho))]
      exact I2.freeC x c (hclx e)
    · show (subS ρ σ).length = M.length
      unfold subS
      rw [List.length_map, S.len]
  have st4 : tn 0 h1 := T.keep 0 _ _ st2 fun b _ o e => old b o e
  have fr4 : ∀ b ∈ fp, upd H2 s.heap.objs.size (.lst []) b = none := fun b hb => by
    obtain ⟨o, e, _⟩ := T.obj 0 _ st2 b hb
    rw [upd_ne (Nat.ne_of_lt (Heap.lt_size e))]
    exact (f2 b hb).1
  have stat : ∀ {H' : Hp}, (∀ b ∈ fp, H' b = none) → ∀ b ∈ fp, FpOk (cxComp X sc cl G.objs.size M s H2 fp xe) [] H' b := fun hn b hb =>
    ⟨hn b hb, fpC b hb, fpS b hb, .inl hb, fun x c e => (f2 b hb).2.2.2.2.1 x c (hclx e), fun p hp => absurd (show p ∈ ([] : List (Addr × Obj)) from hp) (by simp)⟩
  have loop : codeAny (model X.prog X.w) X.A (.compLoop (.ListComp elt [⟨tg, iter, ifs, 0⟩] sc pos) 0 (.ref it) (.ref s.heap.objs.size) (compEnvC sc cl G.objs.size X.env)) (RR (.ref s.heap.objs.size) G.objs.size)
      { s with heap := h1, toks := s.toks + ([] : List (Str × Value)).length } := by
    refine comp_loop (fun n s' => ∃ i σ' H', Inv (cxComp X sc cl G.objs.size M s H2 fp xe) [] σ' H' s' ∧ tn i s'.heap ∧ (∀ b ∈ fp, H' b = none) ∧ W i n σ' H') ?_ m0 ⟨0, _, _, I4, st4, fr4, w0⟩
    rw [hxe]
    rintro n s3 ⟨i, σ3, H3, I3, st3, fr3, w3⟩
    rcases turn i n σ3 H3 w3 with ⟨stop, qn⟩ | ⟨go, N, hN, step⟩
    · refine thn (T.done (cxComp X sc cl G.objs.size M s H2 fp xe) rfl rfl rfl hc i [] s3 σ3 H3 xe I3 (stat fr3) st3 stop) fun r s4 ⟨hr, I5⟩ => ?_
      subst hr
      obtain ⟨mC, nC, _⟩ := I5.loc
      have I6 : Inv X pins σ H3 s4 := I2.call' I5.os I5.base I5.hok I5.bare fun b hb => ⟨(f2 b hb).2.2.2.1, (f2 b hb).2.1, (f2 b hb).2.2.2.2.1, (f2 b hb).2.2.2.2.2⟩
      exact hR _ _ H3 s4 mC I6 nC (I2.fpOk hCle I5.free) qn
    · refine thn (T.item (cxComp X sc cl G.objs.size M s H2 fp xe) rfl rfl rfl hc i [] s3 σ3 H3 xe I3 (stat fr3) st3 go) fun r s4 ⟨u, hr, h4⟩ => ?_
      subst hr
      refine thn h4 fun _ s5 ⟨x, H5, I5, r5, y5, st5, fr5⟩ => ?_
      have I5' := I5.pinned (stat fr5) (T.obj _ _ st5)
      refine thn (hg cl G.objs.size s H2 fp xe _ s5 σ3 H5 x u _ I5' r5 (step x H5 y5)) fun _ s6 ⟨σ6, H6, I6, q6⟩ => ?_
      have fin : ∀ {s7 : Shared} {σ7 : St} {H7 : Hp}, Inv (cxComp X sc cl G.objs.size M s H2 fp xe) ([] ++ pinsAt fp s5.heap) σ7 H7 s7 → (∃ m', m' < n ∧ W (i + 1) m' σ7 H7) →
          ∃ m, m < n ∧ ∃ i σ' H', Inv (cxComp X sc cl G.objs.size M s H2 fp xe) [] σ' H' s7 ∧ tn i s7.heap ∧ (∀ b ∈ fp, H' b = none) ∧ W i m σ' H' := fun {s7 σ7 H7} I7 ⟨m', hm, w7⟩ => by
        refine ⟨m', hm, i + 1, σ7, H7, I7.unpinned, T.keep _ _ _ st5 fun b hb o e => (I7.pin (b, o) (List.mem_append_right _ (List.mem_append_right _ (mem_pinsAt hb e)))).1, fun b hb => ?_, w7⟩
        obtain ⟨o, e, d⟩ := T.obj _ _ st5 b hb
        exact (I7.pin (b, o) (List.mem_append_right _ (List.mem_append_right _ (mem_pinsAt hb e)))).2.1
      refine thn (ht cl G.objs.size s H2 fp xe _ s6 σ6 H6 _ I6 q6) fun ok s7 ⟨H7, I7, q7⟩ => ?_
      cases ok with
      | false =>
        rw [if_neg Bool.false_ne_true] at q7 ⊢
        exact fin I7 (hN _ _ q7)
      | true =>
        rw [if_pos rfl] at q7 ⊢
        refine thn (he cl G.objs.size s H2 fp xe _ s7 σ6 H7 _ I7 q7) fun y s8 ⟨yv, H8, I8, r8, ys, hys, hlt, q8⟩ => ?_
        obtain ⟨z, its, k, rv, hl, e⟩ := I8.lstM hys
        refine call_meets F.slot_list_append ⟨_, e, rfl⟩ F.entry_list_append (F.args_list_append_2 _ _) (PySem.list_append _ its.toArray k y (by rw [List.size_toArray]; omega)) ⟨e, ?_⟩
        exact fin (I8.lset (its' := its ++ [y]) hys e (by simp) (rv.append (.cons r8 .nil)) (by rw [List.length_append, List.length_singleton]; omega)) (hN _ _ q8)
  exact codeAny_compStart_list loop (T.self X.A 0 _ _ _ st4 loop)
theorem pe_comp (osc : Scope) (N : List Str) (S : CompScope osc N sc M ρ) (hi : PI X tg iter wi) (hg : ∀ cl C s H fp xe, PG (cxComp X sc cl C M s H fp xe) tg g) (ht : ∀ cl C s H fp xe, PTs (cxComp X sc cl C M s H fp xe) ifs tt)
    (he : ∀ cl C s H fp xe, PE (cxComp X sc cl C M s H fp xe) elt te) (hosc : X.env.scope = osc := by rfl) (hN : X.N = N := by rfl) (hc : X.calm = true := by rfl) (hs : ∀ x, foldedSetIterable iter X.env x = pure x := by intro _; rfl) :
    PE X (.ListComp elt [⟨tg, iter, ifs, 0⟩] sc pos) (tComp wi ρ g tt te) := by
  intro pins s σ H Q I h
  have hcells : ∀ y ∈ sc.names, y.2 = .free → ∃ c, X.env.cells.lookup y.1 = some c := fun y hy hf => I.ok.has y.1 (by show X.env.scope.names.lookup y.1 = _ ∨ X.env.scope.names.lookup y.1 = _; rw [hosc]; exact S.fre y hy hf)
  rw [eval_ListComp]
  refine wpAny_comprehension_free (M := model X.prog X.w) (A := X.A) (E := X.xe) (e := .ListComp elt [⟨tg, iter, ifs, 0⟩] sc pos) rfl hs (closure_pure hcells) S.kind S.own (thn (hi pins s σ H _ I h) fun v s1 h1 => thn h1 fun itv s2 h2 => ?_)
  obtain ⟨_, _, _, _, _, _, I2, _⟩ := id h2
  refine comp_block (RR := fun acc C => compPost (model X.prog X.w) X.A X.xe none (EP X pins σ Q) acc C) osc hosc N hN S hc hg ht he I2 h2 fun D C H' s' mC I' nC fC q => ?_
  refine ⟨mC, nC, fun h' sb => ?_⟩
  obtain ⟨f0, f1, _, f3, f4, f5⟩ := fC
  exact ⟨.ref D, H', I'.turned (t' := s'.toks) (fun b o hb e => (sb.2 b hb).trans e) f0 f1 f3 f4 f5, rfl, q⟩
theorem ps_setC {j : Nat} {x : Str} {px spos : Pos} (osc : Scope) (N : List Str) (S : CompScope osc N sc M ρ) (hNd : X.N.Nodup) (hj : X.N[j]? = some x) (hx : Loc X.env.scope x) (hi : PI X tg iter wi) (hg : ∀ cl C s H fp xe, PG (cxComp X sc cl C M s H fp xe) tg g)
    (ht : ∀ cl C s H fp xe, PTs (cxComp X sc cl C M s H fp xe) ifs tt) (he : ∀ cl C s H fp xe, PE (cxComp X sc cl C M s H fp xe) elt te)
    (hsw : swapsWith (.ListComp elt [⟨tg, iter, ifs, 0⟩] sc pos) (some (.Name x px)) spos.line X.env = pure true := by rfl) (hosc : X.env.scope = osc := by rfl) (hN : X.N = N := by rfl) (hc : X.calm = true := by rfl) (hs : ∀ x, foldedSetIterable iter X.env x = pure x := by intro _; rfl)
    (hf : X.fn x = true ∨ X.env.scope.names.lookup x = some .local := by first | exact .inl rfl | exact .inr rfl | assumption) :
    PS X (.Assign [.Name x px] (.ListComp elt [⟨tg, iter, ifs, 0⟩] sc pos) spos) (tAsg (tComp wi ρ g tt te) (gName j)) := by
  intro pins s σ H D I h
  have hcells : ∀ y ∈ sc.names, y.2 = .free → ∃ c, X.env.cells.lookup y.1 = some c := fun y hy hf => I.ok.has y.1 (by show X.env.scope.names.lookup y.1 = _ ∨ X.env.scope.names.lookup y.1 = _; rw [hosc]; exact S.fre y hy hf)
  rw [exec_Assign_Name_used _ _ _ _ hsw]
  refine wpAny_bind (wpAny_standAt (wpAny_bind ?_))
  show wpAny (model X.prog X.w) X.A (do let _ ← comprehension (.ListComp elt [⟨tg, iter, ifs, 0⟩] sc pos) sc X.env (firstIterPos [⟨tg, iter, ifs, 0⟩] pos) (newList []) false (eval iter X.env) (some (assign (.Name x px) X.env))) _ X.xe s
  refine wpAny_bind (thn (Q := fun _ s' => SP X pins D .next s') (wpAny_comprehension_free (M := model X.prog X.w) (A := X.A) (E := X.xe) (e := .ListComp elt [⟨tg, iter, ifs, 0⟩] sc pos) (use := some (assign (.Name x px) X.env)) rfl hs (closure_pure hcells) S.kind S.own
    (thn (hi pins s σ H _ I h) fun v s1 h1 => thn h1 fun itv s2 h2 => ?_)) fun _ s' hq => wpAny_pure (wpAny_pure hq))
  obtain ⟨_, _, _, _, _, _, I2, _⟩ := id h2
  refine comp_block (Q := fun v H' => gName j v σ H' D.nx) (RR := fun acc C => compPost (model X.prog X.w) X.A X.xe (some (assign (.Name x px) X.env)) (fun _ s' => SP X pins D .next s') acc C) osc hosc N hN S hc hg ht he I2 h2 fun D' C H' s' mC I' nC fC q => ?_
  show wpAny _ _ (assign (.Name x px) X.env (.ref D')) _ _ s'
  refine wpAny_assign_Name (store_ok2 I' hNd hj hx (v := .ref D') rfl (fun s3 I3 ⟨a, sb, ha⟩ => ?_) hf)
  have hCa : C ≠ a := by
    rcases ha with e | e
    · rw [e]; exact fC.2.1
    · exact fun z => fC.2.2.2.2.1 x a e z.symm
  refine ⟨mC, nC.sameBut sb hCa, fun h' sb2 => ?_⟩
  obtain ⟨f0, f1, _, f3, f4, f5⟩ := fC
  exact ⟨_, H', I3.turned (t' := s3.toks) (fun b o hb e => (sb2.2 b hb).trans e) f0 f1 f3 f4 f5, q⟩
end
end L2
set_option Elab.async false
set_option linter.all false
set_option maxRecDepth 100000
set_option maxHeartbeats 4000000
namespace L2
open PySem PySem.Spec PyProof.Rows
section
variable {X : Cx} {tg : Expr}
theorem sl_listK {K : PySem.W.Frag} (h : X.K = K) : SlR X (rSlL K) := h ▸ sl_list
theorem ix_tupK {K : PySem.W.Frag} (h : X.K = K) : IxR X (rIxT K) := h ▸ ix_tup
theorem op_in_seqK {K : PySem.W.Frag} (h : X.K = K) : OpR X (compareOp .In) (rIn K false) := h ▸ op_in_seq
theorem op_notin_seqK {K : PySem.W.Frag} (h : X.K = K) : OpR X (compareOp .NotIn) (rIn K true) := h ▸ op_notIn_seq
theorem call_tuple_ofK {K : PySem.W.Frag} (h : X.K = K) : CallR X (.type "tuple") (fun xs H Q => ∃ p ys, xs = [.ref p] ∧ ((SqL K H p ys ∧ ∀ l, H l = none → Q (.ref l) (upd H l (.tup ys))) ∨ (SqT K H p ys ∧ Q (.ref p) H))) := h ▸ call_tuple_of
theorem call_isinstK {K : PySem.W.Frag} (h : X.K = K) : CallR X (.builtin "isinstance") (fun xs H Q => ∃ x t T b, xs = [x, .ty T] ∧ TyOf K H x t ∧ PySem.W.kitOne K t (.type T) = some b ∧ Q (.bl b) H) := h ▸ call_isinst
theorem pg_tupK {K : PySem.W.Frag} {pos : Pos} {es : List Expr} {k : Nat} {t : TGs} {n : Nat} (hK : X.K = K) (hc : X.calm = true) (h : PGs X es t) (hn : (assignEach es X.env).length = n := by rfl) (hst : (assignEach es X.env).findIdx? (·.1) = none := by rfl) : PG X (.Tuple es k pos) (gTup K n t) := hK ▸ pg_tup hc h hn hst
end
end L2
set_option Elab.async false
set_option linter.all false
set_option maxRecDepth 100000
set_option maxHeartbeats 4000000
namespace L2
open PySem PySem.Spec PyProof.Rows
def PairAt (H : Hp) (v : V) (d : Str × Str) : Prop := ∃ p, v = .ref p ∧ H p = some (.tup [.str d.1, .str d.2]) ∧ NameOk d.1 ∧ NameOk d.2
abbrev Pairs (H : Hp) : List V → List (Str × Str) → Prop := Paired (PairAt H)
theorem PairAt.mono {H H' : Hp} (s : Tups H H') {v : V} {t : Str × Str} (h : PairAt H v t) : PairAt H' v t := by
  obtain ⟨p, e, h, o⟩ := h
  exact ⟨p, e, s p _ h, o⟩
theorem Pairs.mono {H H' : Hp} (s : Tups H H') {vs : List V} {ts : List (Str × Str)} (h : Pairs H vs ts) : Pairs H' vs ts := Paired.mapP h fun _ _ q => q.mono s
structure PairsAt (H : Hp) (t : Addr) (ps : List (Str × Str)) : Prop where
  ex : ∃ vs, H t = some (.tup vs) ∧ Pairs H vs ps
  hi : ps.length ≤ 6
theorem PairsAt.mono {H H' : Hp} (s : Tups H H') {t : Addr} {ts : List (Str × Str)} (h : PairsAt H t ts) : PairsAt H' t ts := by
  obtain ⟨⟨vs, h1, h2⟩, hi⟩ := h
  exact ⟨⟨vs, s t _ h1, h2.mono s⟩, hi⟩
def optV : Option Str → V
  | none => .non
  | some x => .str x
inductive Rw where
  | bring (p : Str) (ps : List (Str × Str))
  | give (o g : Str)
  | set (o : Str) (ts : List (Int × Th))
  | take (o : Str)
  | say (ts : List (Int × Th)) (w : Option Str)
  | need (ts : List (Int × Th))
  | ask (p : Str) (w : Option Str)
  | part (p : Str)
  | doo (p : Str)
def RowAt (H : Hp) (r : Addr) : Rw → Prop
  | .bring p ps => ∃ t, H r = some (.tup [.str "bring", .str p, .ref t]) ∧ PairsAt H t ps
  | .give o g => H r = some (.tup [.str "give", .str o, .str g])
  | .set o ts => ∃ t, H r = some (.tup [.str "set", .str o, .ref t]) ∧ TermsAt H t ts
  | .take o => H r = some (.tup [.str "take", .str o])
  | .say ts w => ∃ t, H r = some (.tup [.str "say", .ref t, optV w]) ∧ TermsAt H t ts
  | .need ts => ∃ t, H r = some (.tup [.str "need", .ref t]) ∧ TermsAt H t ts
  | .ask p w => H r = some (.tup [.str "ask", .str p, optV w])
  | .part p => H r = some (.tup [.str "part", .str p])
  | .doo p => H r = some (.tup [.str "do", .str p])
theorem RowAt.mono {H H' : Hp} (s : Tups H H') {r : Addr} {rw : Rw} (h : RowAt H r rw) : RowAt H' r rw := by
  cases rw with
  | bring p ps => obtain ⟨t, h1, h2⟩ := h; exact ⟨t, s _ _ h1, h2.mono s⟩
  | give o g => exact s _ _ h
  | set o ts => obtain ⟨t, h1, h2⟩ := h; exact ⟨t, s _ _ h1, h2.mono s⟩
  | take o => exact s _ _ h
  | say ts w => obtain ⟨t, h1, h2⟩ := h; exact ⟨t, s _ _ h1, h2.mono s⟩
  | need ts => obtain ⟨t, h1, h2⟩ := h; exact ⟨t, s _ _ h1, h2.mono s⟩
  | ask p w => exact s _ _ h
  | part p => exact s _ _ h
  | doo p => exact s _ _ h
end L2
set_option Elab.async false
set_option linter.all false
set_option maxRecDepth 100000
set_option maxHeartbeats 4000000
namespace L2
open PySem PySem.Spec PyProof.Rows
section
variable {X : Cx} {elts : List Expr} {k : Nat} {tpos : Pos}
end
theorem op_eqL_nil {X : Cx} (hu : X.A.units < cLine) : OpR X (compareOp .Eq) (fun x y H Q => ∃ a b xs, x = .ref a ∧ y = .ref b ∧ SqL X.K H a xs ∧ SqL X.K H b [] ∧ Q (.bl xs.isEmpty) H) := by
  intro pins s σ H x y v u Q I rx ry h
  obtain ⟨a, b, xs, rfl, rfl, ha, hb, q⟩ := h
  by_cases hx : xs = []
  · subst hx
    exact op_eqL_same hu pins s σ H _ _ _ _ Q I rx ry ⟨a, b, [], rfl, rfl, ha, hb, rfl, q⟩
  · cases rx
    cases ry
    obtain ⟨its, r1, p1, _⟩ := I.list ha
    obtain ⟨its2, r2, p2, _⟩ := I.list hb
    cases r2
    have hl1 := r1.length
    have hl : xs.length ≠ 0 := fun z => hx (List.length_eq_zero_iff.mp z)
    refine SeqAt.eq_list_lengthsAt p1.isList p2.isList (by rw [bne_iff_ne]; intro z; simp only [List.size_toArray, List.length_nil] at z; omega) hu ⟨.bl false, H, I, rfl, ?_⟩
    cases xs with
    | nil => exact absurd rfl hx
    | cons c r => exact q
end L2
set_option Elab.async false
set_option linter.all false
set_option maxRecDepth 100000
set_option maxHeartbeats 4000000
namespace L2
open PySem PySem.Spec PyProof.Rows
theorem cps_app (a b : Str) : (a ++ b).cps.toList = a.cps.toList ++ b.cps.toList := by
  show (a.cps ++ b.cps).toList = _
  simp
abbrev Pt := Str × List Rw
def RowV (H : Hp) (v : V) (rw : Rw) : Prop := ∃ r, v = .ref r ∧ RowAt H r rw
abbrev RowsAt (H : Hp) : List V → List Rw → Prop := Paired (RowV H)
theorem RowsAt.mono {H H' : Hp} (s : Tups H H') {vs : List V} {rs : List Rw} (h : RowsAt H vs rs) : RowsAt H' vs rs := Paired.mapP h fun _ _ ⟨r, e, q⟩ => ⟨r, e, q.mono s⟩
def PartAt (H : Hp) (v : V) (p : Pt) : Prop := ∃ t u vs, v = .ref t ∧ H t = some (.tup [.str p.1, .ref u]) ∧ H u = some (.tup vs) ∧ RowsAt H vs p.2
theorem PartAt.mono {H H' : Hp} (s : Tups H H') {v : V} {p : Pt} (h : PartAt H v p) : PartAt H' v p := by
  obtain ⟨t, u, vs, e, h1, h2, h3⟩ := h
  exact ⟨t, u, vs, e, s _ _ h1, s _ _ h2, h3.mono s⟩
end L2
set_option Elab.async false
set_option linter.all false
set_option maxRecDepth 100000
set_option maxHeartbeats 4000000
namespace L2
open PySem PySem.Spec PyProof.Rows
section
variable {κ : Type} [DecidableEq κ]
def valV (kvs : List (κ × V)) (k : κ) : Option V := (kvs.find? fun kv => decide (kv.1 = k)).map (·.2)
def putK (kvs : List (κ × V)) (k : κ) (v : V) : List (κ × V) :=
  if (kvs.any fun kv => decide (kv.1 = k)) = true then kvs.map (fun kv => if kv.1 = k then (kv.1, v) else kv) else kvs ++ [(k, v)]
theorem valV_pos {p : κ × V} {r : List (κ × V)} {k : κ} (e : p.1 = k) : valV (p :: r) k = some p.2 := by simp [valV, List.find?_cons, e]
theorem valV_neg {p : κ × V} {r : List (κ × V)} {k : κ} (e : ¬ p.1 = k) : valV (p :: r) k = valV r k := by simp [valV, List.find?_cons, e]
theorem valV_any (k : κ) : ∀ kvs : List (κ × V), (kvs.any fun kv => decide (kv.1 = k)) = (valV kvs k).isSome
  | [] => rfl
  | p :: r => by
    rw [List.any_cons]
    by_cases e : p.1 = k
    · simp only [valV_pos e, decide_eq_true e, Bool.true_or, Option.isSome_some]
    · rw [valV_neg e, decide_eq_false e, Bool.false_or]; exact valV_any k r
theorem valV_map (k j : κ) (y : V) : ∀ kvs : List (κ × V), valV (kvs.map fun kv => if kv.1 = k then (kv.1, y) else kv) j = (valV kvs j).map fun x => if j = k then y else x
  | [] => rfl
  | p :: r => by
    have ih := valV_map k j y r
    rw [List.map_cons]
    by_cases h : p.1 = k
    · rw [if_pos h]
      by_cases e : p.1 = j
      · rw [valV_pos (p := (p.1, y)) e, valV_pos e, Option.map_some, if_pos (e.symm.trans h)]
      · rw [valV_neg (p := (p.1, y)) e, valV_neg e, ih]
    · rw [if_neg h]
      by_cases e : p.1 = j
      · rw [valV_pos (p := p) e, valV_pos e, Option.map_some, if_neg (fun z => h (e.trans z))]
      · rw [valV_neg (p := p) e, valV_neg e, ih]
theorem valV_snoc (k j : κ) (y : V) : ∀ kvs : List (κ × V), valV kvs k = none → valV (kvs ++ [(k, y)]) j = if j = k then some y else valV kvs j
  | [], _ => by
    by_cases e : k = j
    · rw [if_pos e.symm]; exact valV_pos (p := (k, y)) e
    · rw [if_neg (fun z => e z.symm)]; exact valV_neg (p := (k, y)) e
  | p :: r, hn => by
    rw [List.cons_append]
    have hk : ¬ p.1 = k := fun z => by rw [valV_pos z] at hn; cases hn
    rw [valV_neg hk] at hn
    have ih := valV_snoc k j y r hn
    by_cases e : p.1 = j
    · rw [valV_pos e, valV_pos e, if_neg (fun z => hk (e.trans z))]
    · rw [valV_neg e, valV_neg e, ih]
theorem valV_put (kvs : List (κ × V)) (k j : κ) (y : V) : valV (putK kvs k y) j = if j = k then some y else valV kvs j := by
  unfold putK
  by_cases a : (kvs.any fun kv => decide (kv.1 = k)) = true
  · rw [if_pos a, valV_map]
    rw [valV_any] at a
    by_cases e : j = k
    · obtain ⟨x, hx⟩ := Option.isSome_iff_exists.mp a
      rw [if_pos e, e, hx, Option.map_some, if_pos rfl]
    · rw [if_neg e]
      cases valV kvs j with
      | none => rfl
      | some x => rw [Option.map_some, if_neg e]
  · rw [if_neg a]
    refine valV_snoc k j y kvs ?_
    rw [valV_any] at a
    cases q : valV kvs k with
    | none => rfl
    | some x => rw [q] at a; exact (a rfl).elim
theorem length_putK (kvs : List (κ × V)) (k : κ) (v : V) : (putK kvs k v).length ≤ kvs.length + 1 := by
  unfold putK
  split
  · rw [List.length_map]; omega
  · rw [List.length_append, List.length_cons, List.length_nil]; omega
theorem putK_new {kvs : List (κ × V)} {k : κ} (v : V) (h : valV kvs k = none) : putK kvs k v = kvs ++ [(k, v)] := by
  unfold putK
  rw [valV_any, h]
  exact if_neg (by decide)
theorem RelO.isSome_eq {o : Option V} {u : Option Value} (r : RelO o u) : o.isSome = u.isSome := by
  cases o with
  | none => cases u with
    | none => rfl
    | some _ => exact (show False from r).elim
  | some _ => cases u with
    | none => exact (show False from r).elim
    | some _ => rfl
theorem KV.val {kvs : List (κ × V)} {vs : List (κ × Value)} (r : KV kvs vs) (k : κ) : RelO (valV kvs k) (valueAt vs k) := by
  unfold KV at r
  induction r with
  | nil => exact True.intro
  | @cons p q ps qs h t ih =>
    obtain ⟨h1, h2⟩ := h
    by_cases e : p.1 = k
    · have e' : q.1 = k := h1.symm.trans e
      have b : valueAt (q :: qs) k = some q.2 := by simp [valueAt, List.find?_cons, e']
      rw [valV_pos e, b]; exact h2
    · have e' : ¬ q.1 = k := fun z => e (h1.trans z)
      have b : valueAt (q :: qs) k = valueAt qs k := by simp [valueAt, List.find?_cons, e']
      rw [valV_neg e, b]; exact ih
theorem KV.any {kvs : List (κ × V)} {vs : List (κ × Value)} (r : KV kvs vs) (k : κ) : (kvs.any fun kv => decide (kv.1 = k)) = vs.any fun kv => decide (kv.1 = k) := by
  unfold KV at r
  induction r with
  | nil => rfl
  | cons h t ih => rw [List.any_cons, List.any_cons, ih, h.1]
theorem KV.repl {kvs : List (κ × V)} {vs : List (κ × Value)} (r : KV kvs vs) (k : κ) {y : V} {u : Value} (ry : RelV y u) :
    KV (kvs.map fun kv => if kv.1 = k then (kv.1, y) else kv) (vs.map fun kv => if kv.1 = k then (kv.1, u) else kv) := by
  unfold KV at r ⊢
  induction r with
  | nil => exact .nil
  | @cons p q ps qs h t ih =>
    rw [List.map_cons, List.map_cons]
    refine .cons ?_ ih
    obtain ⟨h1, h2⟩ := h
    by_cases e : p.1 = k
    · rw [if_pos e, if_pos (h1.symm.trans e)]; exact ⟨h1, ry⟩
    · rw [if_neg e, if_neg (fun z => e (h1.trans z))]; exact ⟨h1, h2⟩
theorem KV.put {kvs : List (κ × V)} {vs : List (κ × Value)} (r : KV kvs vs) (k : κ) {y : V} {u : Value} (ry : RelV y u) : KV (putK kvs k y) (stored vs k u) := by
  unfold putK stored
  rw [r.any k]
  by_cases e : (vs.any fun kv => decide (kv.1 = k)) = true
  · rw [if_pos e, if_pos e]; exact r.repl k ry
  · rw [if_neg e, if_neg e]; exact Paired.snoc r ⟨rfl, ry⟩
theorem KV.length {kvs : List (κ × V)} {vs : List (κ × Value)} (r : KV kvs vs) : kvs.length = vs.length := Paired.length r
end
theorem kV_is {P : Program} {w : World} {k : Key} {u : Value} (r : RelV (kV k) u) : (mixKind P w).is k u = true := by
  cases k with
  | inl i => obtain ⟨t, e⟩ := (show ∃ t, u = Value.int i t from r); subst e; exact mixKind_int P w i t
  | inr x => obtain ⟨t, e⟩ := (show ∃ t, u = Value.str x t from r); subst e; exact mixKind_str P w x t
theorem items_are {P : Program} {w : World} : ∀ {ks : List Key} {us : List Value}, Vals (ks.map kV) us → ItemsAre (mixKind P w) ks us
  | [], _, r => by rw [List.map_nil] at r; cases r; exact .nil
  | k :: ks, _, r => by
    rw [List.map_cons] at r
    cases r with
    | cons h t => exact .cons (kV_is h) (items_are t)
abbrev KT (H : Hp) : List (List Key × V) → List (List Key × Addr × Value) → Prop := Paired fun p q => p.1 = q.1 ∧ H q.2.1 = some (.tup (p.1.map kV)) ∧ RelV p.2 q.2.2
theorem KT.val {H : Hp} {kvs : List (List Key × V)} {xs : List (List Key × Addr × Value)} (r : KT H kvs xs) (k : List Key) : RelO (valV kvs k) ((atKey xs k).map (·.2)) := by
  induction r with
  | nil => exact True.intro
  | @cons p q ps qs h t ih =>
    obtain ⟨h1, _, h2⟩ := h
    by_cases e : p.1 = k
    · have e' : q.1 = k := h1.symm.trans e
      have b : atKey (q :: qs) k = some q.2 := by simp [atKey, List.find?_cons, e']
      rw [valV_pos e, b]; exact h2
    · have e' : ¬ q.1 = k := fun z => e (h1.trans z)
      have b : atKey (q :: qs) k = atKey qs k := by simp [atKey, List.find?_cons, e']
      rw [valV_neg e, b]; exact ih
theorem KT.repl {H : Hp} {kvs : List (List Key × V)} {xs : List (List Key × Addr × Value)} (r : KT H kvs xs) (k : List Key) {y : V} {u : Value} (ry : RelV y u) :
    KT H (kvs.map fun kv => if kv.1 = k then (kv.1, y) else kv) (xs.map (putAt k u)) := by
  induction r with
  | nil => exact .nil
  | @cons p q ps qs h t ih =>
    rw [List.map_cons, List.map_cons]
    refine .cons ?_ ih
    obtain ⟨h1, h2, h3⟩ := h
    unfold putAt
    by_cases e : p.1 = k
    · rw [if_pos e, if_pos (h1.symm.trans e)]; exact ⟨h1, h2, ry⟩
    · rw [if_neg e, if_neg (fun z => e (h1.trans z))]; exact ⟨h1, h2, h3⟩
theorem KT.put {H : Hp} {kvs : List (List Key × V)} {xs : List (List Key × Addr × Value)} (r : KT H kvs xs) (k : List Key) {b : Addr} {y : V} {u : Value} (hb : H b = some (.tup (k.map kV))) (ry : RelV y u) :
    KT H (putK kvs k y) (storedH xs k b u) := by
  have e : (kvs.any fun kv => decide (kv.1 = k)) = (atKey xs k).isSome := by
    rw [valV_any, (r.val k).isSome_eq, Option.isSome_map]
  unfold putK storedH
  rw [e]
  by_cases q : (atKey xs k).isSome = true
  · rw [if_pos q, if_pos q]; exact r.repl k ry
  · rw [if_neg q, if_neg q]; exact Paired.snoc r ⟨rfl, hb, ry⟩
theorem KT.keeps {H H' : Hp} {kvs : List (List Key × V)} {xs : List (List Key × Addr × Value)} (r : KT H kvs xs) (ht : ∀ b ys, H b = some (.tup ys) → H' b = some (.tup ys)) : KT H' kvs xs :=
  Paired.mapP r fun _ _ z => ⟨z.1, ht _ _ z.2.1, z.2.2⟩
section
variable {P : Program} {w : World} {H : Hp} {h : Heap} {a : Addr}
theorem rd_of {u : HO} (ok : HOk P w H h) (e : Rd H a u) : ObjOk P w H h a u := e.ok ok
theorem dk_rd {kvs : List (Key × V)} (ok : HOk P w H h) (e : Rd H a (.dK kvs)) : kvs.length ≤ sizeLine ∧ (a == sysModules) = false ∧ ∃ vs, KV kvs vs ∧ h.DictOf (mixKind P w) a vs :=
  show ObjOk P w H h a (.dK kvs) from rd_of ok e
theorem dk_of {kvs : List (Key × V)} (ok : HOk P w H h) (e : H a = some (.dK kvs)) : kvs.length ≤ sizeLine ∧ (a == sysModules) = false ∧ ∃ vs, KV kvs vs ∧ h.DictOf (mixKind P w) a vs := dk_rd ok (.inl e)
theorem key_of {ks : List Key} (ok : HOk P w H h) (e : H a = some (.tup (ks.map kV))) : (tupleKind (mixKind P w)).is h ks a := by
  obtain ⟨_, its, r, o, h1, h2, n, h3⟩ := (show ObjOk P w H h a (.tup (ks.map kV)) from ok a _ e)
  exact ⟨o, its.toArray, n, h1, h2, h3, by simpa using items_are r⟩
theorem dt_rd {kvs : List (List Key × V)} (ok : HOk P w H h) (e : Rd H a (.dT kvs)) : kvs.length ≤ sizeLine ∧ (a == sysModules) = false ∧
    ∃ xs, KT H kvs xs ∧ h.DictOfH (tupleKind (mixKind P w)) a xs := by
  obtain ⟨z, y, xs, r, o, es, ep, h1, h2, h3, h4, h5⟩ := (show ObjOk P w H h a (.dT kvs) from rd_of ok e)
  refine ⟨z, y, xs, r, o, es, ep, h1, h2, h3, h4, fun x hx => ?_, h5⟩
  have all : ∀ {l : List (List Key × V)} {m : List (List Key × Addr × Value)}, KT H l m → ∀ x ∈ m, (tupleKind (mixKind P w)).is h x.1 x.2.1 := by
    intro l m q
    induction q with
    | nil => intro x hx; exact nomatch hx
    | @cons p q ps qs hq t ih =>
      intro x hx
      rcases List.mem_cons.mp hx with e | hx
      · subst e
        exact key_of ok (by rw [← hq.1]; exact hq.2.1)
      · exact ih x hx
  exact all r x hx
theorem dt_of {kvs : List (List Key × V)} (ok : HOk P w H h) (e : H a = some (.dT kvs)) : kvs.length ≤ sizeLine ∧ (a == sysModules) = false ∧
    ∃ xs, KT H kvs xs ∧ h.DictOfH (tupleKind (mixKind P w)) a xs := dt_rd ok (.inl e)
end
def DGet (H : Hp) (a : Addr) (y : V) (r : Option V) : Prop :=
  (∃ kvs k, Rd H a (.dK kvs) ∧ y = kV k ∧ r = valV kvs k) ∨ ∃ kvs k b, Rd H a (.dT kvs) ∧ y = .ref b ∧ H b = some (.tup (k.map kV)) ∧ r = valV kvs k
def DPut (H : Hp) (a : Addr) (y v : V) (H' : Hp) : Prop :=
  (∃ kvs k, H a = some (.dK kvs) ∧ y = kV k ∧ kvs.length < sizeLine ∧ H' = upd H a (.dK (putK kvs k v))) ∨
  ∃ kvs k b, H a = some (.dT kvs) ∧ y = .ref b ∧ H b = some (.tup (k.map kV)) ∧ kvs.length < sizeLine ∧ H' = upd H a (.dT (putK kvs k v))
theorem DGet.k {H : Hp} {a : Addr} {kvs : List (Key × V)} {k : Key} (e : H a = some (.dK kvs)) : DGet H a (kV k) (valV kvs k) := .inl ⟨kvs, k, .inl e, rfl, rfl⟩
theorem DPut.k {H : Hp} {a : Addr} {kvs : List (Key × V)} {k : Key} {v : V} (e : H a = some (.dK kvs)) (hl : kvs.length < sizeLine) : DPut H a (kV k) v (upd H a (.dK (putK kvs k v))) := .inl ⟨kvs, k, e, rfl, hl, rfl⟩
section
variable {X : Cx} {pins : List (Addr × Obj)} {σ : St} {H : Hp} {s : Shared} {a : Addr} {y v : V} {u r : Value} {o : Option V} {A : Around} {E : Value → Shared → Prop}
theorem Inv.big (I : Inv X pins σ H s) : sysModules < s.heap.objs.size := by
  have h : mainGlobals < s.heap.objs.size := (I.mod.glob.keeps I.bk).lt
  exact Nat.lt_trans (by decide) h
theorem d_getItem {Q : Value → Shared → Prop} (hu : A.units + 1 < cLine) (I : Inv X pins σ H s) (g : DGet H a y (some v)) (ry : RelV y u) (h : ∀ w' s', Inv X pins σ H s' → RelV v w' → Q w' s') :
    wpAny (model X.prog X.w) A (getItem (.ref a) u) Q E s := by
  rcases g with ⟨kvs, k, e, ey, l⟩ | ⟨kvs, k, b, e, ey, eb, l⟩
  · subst ey
    obtain ⟨z, hd, vs, rel, dd⟩ := dk_rd I.hok e
    obtain ⟨w', hw, rw'⟩ := RelO.some_of (v := v) (o := valueAt vs k) (by rw [l]; exact rel.val k)
    exact wpAny_getItem_of (kV_is ry) dd.mapOf hw (h w' _ (I.tok _) rw')
  · subst ey
    cases (show u = Value.ref b from ry)
    obtain ⟨z, hd, xs, rel, dd⟩ := dt_rd I.hok e
    obtain ⟨w', hw, rw'⟩ := RelO.some_of (v := v) (o := (atKey xs k).map (·.2)) (by rw [l]; exact rel.val k)
    obtain ⟨p, hp, hp2⟩ := Option.map_eq_some_iff.mp hw
    refine wpAny_getItem_heap (tupleKind_room_in1 hu) (key_of I.hok eb) dd hp ?_
    rw [hp2]
    exact h w' _ (I.tok _) rw'
theorem d_notIn {Q : Value → Shared → Prop} (hu : A.units + 1 < cLine) (I : Inv X pins σ H s) (g : DGet H a y o) (ry : RelV y u) (h : ∀ s', Inv X pins σ H s' → Q (.bool (!o.isSome)) s') :
    wpAny (model X.prog X.w) A (compareOp .NotIn u (.ref a)) Q E s := by
  rcases g with ⟨kvs, k, e, ey, l⟩ | ⟨kvs, k, b, e, ey, eb, l⟩
  · subst ey
    obtain ⟨z, hd, vs, rel, dd⟩ := dk_rd I.hok e
    refine wpAny_notIn_of (kV_is ry) hd dd.mapOf ?_
    rw [← (rel.val k).isSome_eq, ← l]
    exact h _ (I.tok _)
  · subst ey
    cases (show u = Value.ref b from ry)
    obtain ⟨z, hd, xs, rel, dd⟩ := dt_rd I.hok e
    refine wpAny_notIn_heap (tupleKind_room_in1 hu) (key_of I.hok eb) hd dd ?_
    have q := (rel.val k).isSome_eq
    rw [Option.isSome_map] at q
    rw [← q, ← l]
    exact h _ (I.tok _)
theorem d_write {h' : Heap} {t' : Nat} {ob : HO} (I : Inv X pins σ H s) (mu : Mut (H a)) (hs : Heap.SameBut a s.heap h') (he : ∃ q, h'.get? a = some q) (new : ObjOk X.prog X.w (upd H a ob) h' a ob) :
    Inv X pins σ (upd H a ob) { s with heap := h', toks := t' } :=
  I.write (x := a) (e := a) mu (.inl rfl) (fun b q hb z => (hs.2 b hb).trans z) he new
theorem dk_new {P : Program} {w : World} {H' : Hp} {h' : Heap} {kvs : List (Key × V)} {vs : List (Key × Value)} (z : kvs.length ≤ sizeLine) (hd : (a == sysModules) = false) (rel : KV kvs vs) (dd : h'.DictOf (mixKind P w) a vs) :
    ObjOk P w H' h' a (.dK kvs) := ⟨z, hd, vs, rel, dd⟩
theorem d_setItem {H' : Hp} {Q : Unit → Shared → Prop} (hu : A.units + 1 < cLine) (I : Inv X pins σ H s) (g : DPut H a y v H') (ry : RelV y u) (rv : RelV v r) (h : ∀ s', Inv X pins σ H' s' → Q () s') :
    wpAny (model X.prog X.w) A (setItem (.ref a) u r) Q E s := by
  rcases g with ⟨kvs, k, e, ey, l, eH⟩ | ⟨kvs, k, b, e, ey, eb, l, eH⟩
  · subst ey eH
    obtain ⟨z, hd, vs, rel, dd⟩ := dk_of I.hok e
    have hz : vs.length ≤ sizeLine := by rw [← rel.length]; exact z
    have hl : (putK kvs k v).length ≤ sizeLine := by have := length_putK kvs k v; omega
    refine wpAny_setItem_pairs (hsz := hz) (kV_is ry) dd fun h' dd' hs => h _ ?_
    have he : ∃ q, h'.get? a = some q := let ⟨q, _, _, hq, _⟩ := dd'; ⟨q, hq⟩
    exact d_write I (by rw [e]; exact True.intro) hs he (dk_new hl hd (rel.put k rv) dd')
  · subst ey eH
    cases (show u = Value.ref b from ry)
    obtain ⟨z, hd, xs, rel, dd⟩ := dt_of I.hok e
    have hz : xs.length ≤ sizeLine := by rw [← Paired.length rel]; exact z
    have hl : (putK kvs k v).length ≤ sizeLine := by have := length_putK kvs k v; omega
    refine wpAny_setItem_heap (hsz := hz) (tupleKind_room_in1 hu) (key_of I.hok eb) dd fun h' dd' hs => h _ ?_
    obtain ⟨q, es, ep, hq, h2, h3, h4, _, h5⟩ := dd'
    refine d_write I (by rw [e]; exact True.intro) hs ⟨q, hq⟩ ⟨hl, hd, _, (rel.put k eb rv).keeps fun c ys ec => ?_, q, es, ep, hq, h2, h3, h4, h5⟩
    rw [upd_ne (ne_of ec e (fun z => nomatch z))]
    exact ec
end
section
variable {X : Cx} {pins : List (Addr × Obj)} {σ : St} {H : Hp} {s : Shared} {a : Addr} {kvs : List (Key × V)} {k : Key} {u : Value} {A : Around} {E : Value → Shared → Prop}
end
def NoSl (i : Expr) : Prop := ∀ ov iv, subscripted i false ov iv = operate [ov, iv] (getItem ov iv)
theorem subD_of {prog : Program} {w : World} {A : Around} {E : Value → Shared → Prop} {s : Shared} {env : Env} {value slice : Expr} {pos : Pos} {T id : String} {Q : Value → Shared → Prop}
    (hl : typeLookup (.type T) "__getitem__" = pure (some (.builtin id))) (hs : NoSl slice)
    (h : wpAny (model prog w) A (eval value env) (fun o s₁ => wpAny (model prog w) A (eval slice env) (fun i s₂ => s₂.TypeIs o T ∧ wpAny (model prog w) A (getItem o i) Q E s₂) E s₁) E s) :
    wpAny (model prog w) A (eval (.Subscript value slice pos) env) Q E s := by
  refine Subscript_ (wpAny_mono h (fun o s₁ h₁ => wpAny_mono h₁ (fun i s₂ h₂ => ?_) fun _ _ x => x) fun _ _ x => x)
  obtain ⟨hT, h₂⟩ := h₂
  unfold subscriptTail
  refine wpAny_bind ?_
  rw [getitemInPython_of_ne hT.not_modules]
  refine wpAny_bind (wpAny_specialOf hT hl ?_)
  have fin : wpAny (model prog w) A (subscripted slice false o i) (fun r s₃ => wpAny (model prog w) A (letTemporaryGo value o r >>= fun _ => pure r) Q E s₃) E s₂ := by
    rw [hs o i]
    exact wpAny_operating (wpAny_mono h₂ (fun r s₃ h₃ => wpAny_bind (wpAny_letTemporaryGo (wpAny_pure h₃))) fun _ _ x => x)
  first
    | exact wpAny_pure (wpAny_bind fin)
    | exact wpAny_bind (wpAny_pure (wpAny_bind fin))
    | exact wpAny_bind fin
theorem dict_typeIs {X : Cx} {pins : List (Addr × Obj)} {σ : St} {H : Hp} {s : Shared} {a : Addr} {y : V} {o : Option V} (I : Inv X pins σ H s) (g : DGet H a y o) : s.TypeIs (.ref a) "dict" := by
  rcases g with ⟨kvs, k, e, _, _⟩ | ⟨kvs, k, b, e, _, _, _⟩
  · obtain ⟨_, _, vs, _, dd⟩ := dk_rd I.hok e
    exact dd.typeIs
  · obtain ⟨_, _, xs, _, dd⟩ := dt_rd I.hok e
    exact dd.typeIs
def tDGet (td ty : TE) : TE := fun σ H Q => td σ H fun x H1 => ty σ H1 fun y H2 => ∃ a v, x = .ref a ∧ DGet H2 a y (some v) ∧ Q v H2
def tDNotIn (ty td : TE) : TE := fun σ H Q => ty σ H fun y H1 => td σ H1 fun x H2 => ∃ a o, x = .ref a ∧ DGet H2 a y o ∧ Q (.bl (!o.isSome)) H2
def sDPut (td ty tv : TE) : TS := fun D σ H => tv σ H fun v H1 => td σ H1 fun x H2 => ty σ H2 fun y H3 => ∃ a H4, x = .ref a ∧ DPut H3 a y v H4 ∧ D.nx σ H4
def sDAug (td ty tv : TE) (rd : V → V → Hp → VK → Prop) : TS := fun D σ H => td σ H fun x H1 => ty σ H1 fun y H2 => ∃ a v, x = .ref a ∧ DGet H2 a y (some v) ∧
  tv σ H2 fun y2 H3 => rd v y2 H3 fun z H4 => ∃ H5, DPut H4 a y z H5 ∧ D.nx σ H5
section
variable {X : Cx} {o i e value : Expr} {pos pos' tpos : Pos} {td ty tv : TE}
theorem pe_dget (hu : X.A.units + 1 < cLine) (ho : PE X o td) (hi : PE X i ty) (hs : NoSl i) : PE X (.Subscript o i pos) (tDGet td ty) := by
  intro pins s σ H Q I h
  refine subD_of PySem.F.slot_dict_getitem.lookup hs (thn (ho pins s σ H _ I h) fun u s1 ⟨x, H1, I1, rx, q1⟩ => thn (hi pins s1 σ H1 _ I1 q1) fun iv s2 ⟨y, H2, I2, ry, a, v, ex, g, q2⟩ => ?_)
  subst ex
  obtain rfl : u = Value.ref a := rx
  exact ⟨dict_typeIs I2 g, d_getItem hu I2 g ry fun w' s3 I3 rw' => ⟨v, H2, I3, rw', q2⟩⟩
theorem pc_dnotin (hu : X.A.units + 1 < cLine) (hi : PE X i ty) (ho : PE X o td) : PC X .NotIn i o (tDNotIn ty td) := by
  intro pins s σ H Q I h
  refine thn (hi pins s σ H _ I h) fun iv s1 ⟨y, H1, I1, ry, q1⟩ => thn (ho pins s1 σ H1 _ I1 q1) fun u s2 ⟨x, H2, I2, rx, a, ov, ex, g, q2⟩ => ?_
  subst ex
  obtain rfl : u = Value.ref a := rx
  exact d_notIn hu I2 g ry fun s3 I3 => ⟨.bl (!ov.isSome), H2, I3, rfl, q2⟩
theorem ps_dput (hu : X.A.units + 1 < cLine) (ho : PE X o td) (hi : PE X i ty) (hv : PE X value tv) (hs : swapsWith value (some (.Subscript o i pos')) pos.line X.env = pure false) :
    PS X (.Assign [.Subscript o i pos'] value pos) (sDPut td ty tv) := by
  intro pins s σ H D I h
  refine wpAny_Assign_Subscript (thn (hv pins s σ H _ I h) fun r s1 ⟨v, H1, I1, rv, q1⟩ => thn (ho pins s1 σ H1 _ I1 q1) fun u s2 ⟨x, H2, I2, rx, q2⟩ => thn (hi pins s2 σ H2 _ I2 q2) fun iv s3 ⟨y, H3, I3, ry, a, H4, ex, g, q3⟩ => ?_) hs
  subst ex
  obtain rfl : u = Value.ref a := rx
  exact d_setItem hu I3 g ry rv fun s4 I4 => ⟨σ, H4, I4, q3⟩
theorem ps_daug {op : Operator} {rd : V → V → Hp → VK → Prop} (hu : X.A.units + 1 < cLine) (ho : PE X o td) (hi : PE X i ty) (hv : PE X value tv) (hop : InOp X op rd)
    (ha : ∀ ov iv new, augStore i ov iv new = (do holding [new, ov, iv] (setItem ov iv new); release [new, ov, iv] []; pure .next)) : PS X (.AugAssign (.Subscript o i tpos) op value pos) (sDAug td ty tv rd) := by
  intro pins s σ H D I h
  refine wpAny_AugAssign_SubscriptAny (thn (ho pins s σ H _ I h) fun u s1 ⟨x, H1, I1, rx, q1⟩ => thn (hi pins s1 σ H1 _ I1 q1) fun iv s2 ⟨y, H2, I2, ry, a, v, ex, g, q2⟩ => ?_) ha
  subst ex
  obtain rfl : u = Value.ref a := rx
  refine d_getItem hu I2 g ry fun w' s3 I3 rw' => thn (hv pins s3 σ H2 _ I3 q2) fun w2 s4 ⟨y2, H3, I4, ry2, q3⟩ => thn (hop pins s4 σ H3 v y2 w' w2 _ I4 rw' ry2 q3) fun w3 s5 ⟨z, H4, I5, rz, H5, g5, q4⟩ => ?_
  exact d_setItem hu I5 g5 ry rz fun s6 I6 => ⟨σ, H5, I6, q4⟩
end
theorem dk_empty {P : Program} {w : World} {H : Hp} (h : Heap) (hb : sysModules < h.objs.size) : ObjOk P w H (h.push { cls := .type "dict", data := .dict #[] }) h.objs.size (.dK []) :=
  ⟨Nat.zero_le _, beq_eq_false_iff_ne.mpr (Ne.symm (Nat.ne_of_lt hb)), [], .nil, Heap.DictOf.new h⟩
def tDNewK : TE := fun _ H Q => ∀ p, H p = none → Q (.ref p) (upd H p (.dK []))
section
variable {X : Cx} {pos : Pos}
theorem pe_dnewK : PE X (.Dict [] [] pos) tDNewK := fun pins s σ H Q I h =>
  wpAny_Dict_empty ⟨.ref s.heap.objs.size, _, I.laid (a := s.heap.objs.size) (o := .dK []) (t' := s.toks) (fun _ _ q => Heap.get?_push_of_some _ q) (Nat.le_refl _) (dk_empty s.heap I.big), rfl, h _ (I.hok.fresh (Nat.le_refl _))⟩
end
abbrev VV : List (V × V) → List (Value × Value) → Prop := Paired fun p q => RelV p.1 q.1 ∧ RelV p.2 q.2
structure M2 (X : Cx) (o : Expr) (m : Str) (apos : Pos) (e f : Expr) (cpos : Pos) : Prop where
  base : attributeBase o m X.env (eval o X.env) = eval o X.env
  few : ((backTo cpos (starEach [e, f] X.env)).all (fun x => !x.1) && (backToKw cpos (keywordEach [] X.env)).all (fun x => x.1.isSome)
    && decide (([e, f] : List Expr).length + ([] : List Keyword).length + (if ([] : List Keyword).isEmpty then 0 else 1) < 30)) = true
  line : (apos.endLine == cpos.line) = true
  trees : backTo cpos (starEach [e, f] X.env) = [(false, eval e X.env), (false, eval f X.env)]
def IsD (H : Hp) (a : Addr) : Prop := (∃ kvs, Rd H a (.dK kvs)) ∨ ∃ kvs, Rd H a (.dT kvs)
theorem isD_at {X : Cx} {pins : List (Addr × Obj)} {σ : St} {H : Hp} {s : Shared} {a : Addr} (I : Inv X pins σ H s) (d : IsD H a) :
    s.TypeIs (.ref a) "dict" ∧ (∀ b, Value.ref a = .ref b → ∃ ob, s.heap.get? b = some ob ∧ ob.dict = none) ∧ (a == sysModules) = false := by
  rcases d with ⟨kvs, e⟩ | ⟨kvs, e⟩
  · obtain ⟨_, hd, vs, _, dd⟩ := dk_rd I.hok e
    refine ⟨dd.typeIs, fun b q => ?_, hd⟩
    cases q
    obtain ⟨ob, _, _, h1, h2, _⟩ := dd
    exact ⟨ob, h1, h2.2.1⟩
  · obtain ⟨_, hd, xs, _, dd⟩ := dt_rd I.hok e
    refine ⟨dd.typeIs, fun b q => ?_, hd⟩
    cases q
    obtain ⟨ob, _, _, h1, h2, _⟩ := dd
    exact ⟨ob, h1, h2.2.1⟩
section
variable {X : Cx} {pins : List (Addr × Obj)} {σ : St} {H : Hp} {s : Shared} {a : Addr} {y d : V} {u r : Value} {o : Option V} {A : Around} {E : Value → Shared → Prop}
end
section
variable {X : Cx} {o e f : Expr} {apos cpos : Pos} {td ty tx : TE}
end
section
variable {X : Cx} {pins : List (Addr × Obj)} {σ : St} {H : Hp} {s : Shared} {a : Addr} {kvs : List (Key × V)} {A : Around} {E : Value → Shared → Prop}
end
section
variable {X : Cx} {pins : List (Addr × Obj)} {σ : St} {H : Hp} {s : Shared} {a : Addr} {y : V} {u : Value} {A : Around} {E : Value → Shared → Prop}
end
end L2
namespace L2
open PySem PySem.Spec PyProof.Rows
section
variable {X : Cx}
end
section
variable {κ : Type} [DecidableEq κ]
end
end L2
set_option Elab.async false
set_option linter.all false
set_option maxRecDepth 100000
set_option maxHeartbeats 4000000
namespace L2
open PySem PySem.Spec PyProof.Rows
theorem keys_miss {prog : Program} {w : World} {A : Around} {E : Value → Shared → Prop} {s : Shared} {a : Addr} {items : Array Value} {Q : Option Value → Shared → Prop} (hL : s.heap.IsTuple a items) (hn : ∀ o, s.heap.get? a = some o → o.dict = none) (hA : A.handled = none)
    (h : ∀ h' tk, (∀ b ob, s.heap.get? b = some ob → h'.get? b = some ob) → Q none { s with heap := h', toks := tk }) : wpAny (model prog w) A (getAttr? (.ref a) "keys") Q E s := by
  obtain ⟨⟨c, dct, dat, sl⟩, hx, hc, k, hd⟩ := hL
  have hdn := hn _ hx
  simp only at hc hd hdn
  subst hc hd hdn
  obtain ⟨hp, g, d, tk, os⟩ := s
  have hT : ∀ tk', (⟨hp, g, d, tk', os⟩ : Shared).TypeIs (.ref a) "tuple" := fun _ => ⟨_, hx, rfl⟩
  have f1 := sub_AttributeError
  have f3 := F.slot_tuple_getattribute.lookup
  have f4 := F.slot_tuple_getattribute.bind (.ref a)
  have f5 := am_tuple_getattr_none
  have hmiss : typeLookup (.type "tuple") "keys" = pure none := am_miss_of_fast (by decide +kernel)
  unfold getAttr? getAttrBy? getAttrBy
  repeat (any_goals (first | assumption | exact hT _ | ((with_reducible show wpAny _ _ (call (Value.builtin "tuple.__getattribute__") _ _) _ _ _); refine call_meets F.slot_tuple_getattribute (hT _) am_entry_tuple_getattribute (F.args_tuple_getattribute_2 _ _) (meets_getattribute_miss_tuple a items k sl "keys" _ hmiss (by decide +kernel) (by decide +kernel)) ⟨hx, hA, fun h' tk' e hx' => ?_⟩) | wp_step))
  obtain ⟨t', u', he⟩ := hx'.there
  show wpAny _ _ (getattributeRaised _ _ _ _ _ _ _) _ _ _
  unfold getattributeRaised
  repeat (any_goals (first | assumption | wp_step))
  exact h _ _ hx'.keeps
theorem entry_dul : entryFor table "dict.update.loop" = some Builtin.«dict.update.loop» := entryFor_of_fast (by kernel_rfl)
theorem plain_dul : plainId "dict.update.loop" = true := by decide +kernel
section
variable {X : Cx}
def foldP (ps : List (Str × V)) (m : List (Key × V)) : List (Key × V) := ps.foldl (fun m p => putK m (Sum.inr p.1) p.2) m
theorem dict_loop (hc : X.calm = true) {A : Around} (hA : A.handled = none) {pins : List (Addr × Obj)} {σ : St} {H0 : Hp} {Q : VK} {a d it : Addr} {vs : List V} (hda : d ≠ a) (hit : it ≠ a) (hdi : d ≠ it) :
    ∀ (n i : Nat) (s : Shared) (m : List (Key × V)) (ps : List (Str × V)) (j : Int) (tk : Tok), n = vs.length - i → Inv X pins σ (upd H0 d (.dK m)) s → s.heap.IsTupleIter it a i → FpOk X pins (upd H0 d (.dK m)) it → SqT X.K (upd H0 d (.dK m)) a vs →
      Paired (fun v (p : Str × V) => ∃ t, v = .ref t ∧ t ≠ d ∧ SqT X.K H0 t [.str p.1, p.2]) (vs.drop i) ps → m.length + ps.length ≤ 1000 → H0 it = none →
      Q (.ref d) (upd H0 d (.dK (foldP ps m))) → codeAny (model X.prog X.w) A (.builtin "dict.update.loop" ⟨[.ref d, .ref it, .int j tk, .none], []⟩) (wants (fun u s' => u = .none ∧ ∃ H', Inv X pins σ H' s' ∧ Q (.ref d) H') (fun _ _ => False)) s := by
  intro n
  induction n with
  | zero =>
    intro i s m ps j tk hn I st fp hsq hp hlen hn0 q
    have hd : vs.drop i = [] := List.drop_eq_nil_of_le (by omega)
    rw [hd] at hp
    cases hp
    obtain ⟨its, rv, pt, hz⟩ := I.tuple hsq
    have hl := rv.length
    obtain ⟨f0, f1, f2, f3, f4, f5⟩ := fp
    refine codeAny_builtin entry_dul ?_
    rw [Around.under_plainId plain_dul _]
    show wpAny _ A.in1 (pyNext (.ref it) >>= _) _ _ s
    refine wpAny_bind (wpAny_pyNext_tuple_end (A := A.in1) hA st (show s.heap.IsTuple a its.toArray from pt) (by simp; omega) fun h' eb => ?_)
    have I' : Inv X pins σ (upd H0 d (.dK m)) { s with heap := h' } := I.turned (t' := s.toks) (fun b o hb e => eb b o hb e) f0 f1 f3 f4 f5
    show wpAny _ _ (Builtin.Dict.addKeywords d [] >>= _) _ _ _
    exact wpAny_bind (wpAny_pure (wpAny_pure ⟨rfl, _, I', q⟩))
  | succ n ih =>
    intro i s m ps j tk hn I st fp hsq hp hlen hn0 q
    have hi : i < vs.length := by omega
    have hdr : vs.drop i = vs[i] :: vs.drop (i + 1) := List.drop_eq_getElem_cons hi
    rw [hdr] at hp
    cases hp with
    | @cons _ p _ ps' h1 hrest =>
    obtain ⟨t, e, htd, ht⟩ := h1
    obtain ⟨its, rv, pt, hz⟩ := I.tuple hsq
    have hl := rv.length
    have hx : vs[i]? = some (V.ref t) := by simp [hi, e]
    obtain ⟨u, hu, ru⟩ := rv.get hx
    cases ru
    obtain ⟨f0, f1, f2, f3, f4, f5⟩ := id fp
    refine codeAny_builtin entry_dul ?_
    rw [Around.under_plainId plain_dul _]
    show wpAny _ A.in1 (pyNext (.ref it) >>= _) _ _ s
    refine wpAny_bind (wpAny_pyNext_tuple_item (A := A.in1) st (show s.heap.IsTuple a its.toArray from pt) (x := .ref t) (by simpa using hu) fun h' st' sb => ?_)
    have I' : Inv X pins σ (upd H0 d (.dK m)) { s with heap := h' } := I.turned (t' := s.toks) (fun b o hb e => (sb.2 b hb).trans e) f0 f1 f3 f4 f5
    have ht' : SqT X.K (upd H0 d (.dK m)) t [.str p.1, p.2] := by
      rcases ht with (ht | ⟨o, ht⟩) | ht
      · exact .inl (.inl (by rw [upd_ne htd]; exact ht))
      · exact .inl (.inr ⟨o, by rw [upd_ne htd]; exact ht⟩)
      · exact .inr ht
    obtain ⟨kv, rkv, ptt, _⟩ := I'.tuple ht'
    cases rkv with
    | @cons _ ku _ _ rk rr =>
    cases rr with
    | @cons _ vu _ _ rvv rr =>
    cases rr
    obtain ⟨tk2, rfl⟩ := rk
    have hTy : (⟨h', s.gens, s.drawn, s.toks, s.os⟩ : Shared).TypeIs (.ref t) "tuple" := by obtain ⟨o, ho, hcl, _⟩ := ptt; exact ⟨o, ho, hcl⟩
    dsimp only
    obtain ⟨ot, hot, hoc, kt, hodat⟩ := ptt
    obtain ⟨z, hsm, ws, rel, dd⟩ := dk_of I'.hok (upd_same (H := H0) (a := d) (o := .dK m))
    have hz2 : ws.length ≤ sizeLine := by rw [← rel.length]; exact z
    refine wpAny_bind (wpAny_holding (wpAny_bind (wpAny_tryCatch ?_)))
    unfold Builtin.Dict.pairItems
    refine wpAny_bind (wpAny_typeOf hTy ?_)
    rw [if_pos (by decide)]
    refine wpAny_bind (wpAny_seqItems hot hodat (wpAny_pure ?_))
    show wpAny _ _ (holding [Value.str p.1 tk2, vu] (dictSet d (Value.str p.1 tk2) vu)) _ _ _
    refine wpAny_holding (wpAny_dictSet_pairs (knd := mixKind X.prog X.w) (k := Sum.inr p.1) (mixKind_str X.prog X.w p.1 tk2) dd (fun h2 dd2 sb2 => ?_) hz2)
    have hl2 : (putK m (Sum.inr p.1) p.2).length ≤ sizeLine := by
      have h3 := length_putK m (Sum.inr p.1) p.2
      have : sizeLine = 16777216 := sizeLine_eq
      simp only [List.length_cons] at hlen
      omega
    have he : ∃ q, h2.get? d = some q := let ⟨q, _, _, hq, _⟩ := dd2; ⟨q, hq⟩
    have I2 : Inv X pins σ (upd (upd H0 d (.dK m)) d (.dK (putK m (Sum.inr p.1) p.2))) { heap := h2, gens := s.gens, drawn := s.drawn, toks := s.toks + 1, os := s.os } :=
      d_write (s := { heap := h', gens := s.gens, drawn := s.drawn, toks := s.toks, os := s.os }) (t' := s.toks + 1) I' (by rw [upd_same]; exact True.intro) sb2 he (dk_new hl2 hsm (rel.put _ rvv) dd2)
    rw [upd_upd] at I2
    refine wpAny_pure ⟨plainId_quiet plain_dul _, ?_⟩
    have hsq2 : SqT X.K (upd H0 d (.dK (putK m (Sum.inr p.1) p.2))) a vs := by
      rcases hsq with (h | ⟨o, h⟩) | h
      · rw [upd_ne hda.symm] at h; exact .inl (.inl (by rw [upd_ne hda.symm]; exact h))
      · rw [upd_ne hda.symm] at h; exact .inl (.inr ⟨o, by rw [upd_ne hda.symm]; exact h⟩)
      · exact .inr h
    refine ih (i + 1) _ (putK m (Sum.inr p.1) p.2) ps' (j + 1) _ (by omega) I2 ?_ ⟨by rw [upd_ne hdi.symm]; exact hn0, f1, f2, f3, f4, f5⟩ hsq2 hrest ?_ hn0 q
    · obtain ⟨oi, hoi, r⟩ := st'
      exact ⟨oi, (sb2.2 it hdi.symm).trans hoi, r⟩
    · have h3 := length_putK m (Sum.inr p.1) p.2
      simp only [List.length_cons] at hlen
      omega
theorem call_dictT (hc : X.calm = true) : CallR X (.type "dict") (fun xs H Q => ∃ (a : Addr) (o : Obj) (vs : List V) (ps : List (Str × V)), xs = [.ref a] ∧ H a = some (.frz o (.tup vs)) ∧ o.dict = none ∧ Paired (fun v (p : Str × V) => ∃ t, v = .ref t ∧ SqT X.K H t [.str p.1, p.2]) vs ps ∧ ps.length ≤ 1000 ∧
    ∀ d, H d = none → Q (.ref d) (upd H d (.dK (foldP ps [])))) := by
  intro pins s σ H xs us Q I r h
  obtain ⟨a, o, vs, ps, rfl, ha, hod, hp, hlen, q⟩ := h
  obtain ⟨u, rfl, ru⟩ := vals1 r
  cases ru
  have hsq : SqT X.K H a vs := .inl (.inr ⟨o, ha⟩)
  obtain ⟨its, rv, pt, hz⟩ := I.tuple hsq
  have hobj : s.heap.get? a = some o := (I.hok a _ ha).1
  have hfr : H s.heap.objs.size = none := I.hok.fresh (Nat.le_refl _)
  refine callType_codes (Q₁ := fun obj s₁ => obj = .ref s.heap.objs.size ∧ s₁ = { s with heap := s.heap.push { cls := .type "dict", data := .dict #[] } }) F.kt_called_dict (F.kt_typeCall_dict_1 _) F.entry_dict_init (kt_code_dict_new _ ⟨rfl, rfl⟩) ?_
  rintro obj s₁ ⟨rfl, rfl⟩
  have I1 : Inv X pins σ (upd H s.heap.objs.size (.dK [])) { s with heap := s.heap.push { cls := .type "dict", data := .dict #[] } } :=
    I.laid (a := s.heap.objs.size) (o := .dK []) (t' := s.toks) (fun _ _ q => Heap.get?_push_of_some _ q) (Nat.le_refl _) (dk_empty s.heap I.big)
  have hnew : (s.heap.push { cls := .type "dict", data := .dict #[] }).DictOf (mixKind X.prog X.w) s.heap.objs.size [] := Heap.DictOf.new s.heap
  refine ⟨hnew.typeIs, F.args_dict_init_2 _ _, ?_⟩
  unfold Builtin.«dict.__init__»
  refine wpAny_bind ?_
  unfold Builtin.Dict.selfAndRest
  refine wpAny_bind (wpAny_notOrdered_dict hnew.typeIs ?_)
  show wpAny _ _ (pure (s.heap.objs.size, [Value.ref a])) _ _ _
  refine wpAny_pure ?_
  show wpAny _ _ (Builtin.Dict.updateFrom "dict.__init__" s.heap.objs.size (.ref a) [] .none) _ _ _
  have had : s.heap.objs.size ≠ a := Ne.symm (ne_of_none ha hfr)
  have hobj1 : (s.heap.push { cls := .type "dict", data := .dict #[] }).get? a = some o := Heap.get?_push_of_some _ hobj
  have htp : (s.heap.push { cls := .type "dict", data := .dict #[] }).IsTuple a its.toArray := by
    obtain ⟨o2, h1, h2⟩ := pt
    exact ⟨o2, Heap.get?_push_of_some _ h1, h2⟩
  unfold Builtin.Dict.updateFrom
  refine wpAny_bind (wpAny_typeOf (s := { s with heap := s.heap.push { cls := .type "dict", data := .dict #[] } }) (T := "tuple") (by obtain ⟨o2, h1, h2, _⟩ := htp; exact ⟨o2, h1, h2⟩) ?_)
  rw [if_pos (by decide)]
  refine wpAny_bind (keys_miss htp (fun o2 h2 => by rw [hobj1] at h2; cases h2; exact hod) (I.ok.hd hc) fun h' tk hk => ?_)
  rw [if_pos (show (none : Option Value).isNone = true from rfl)]
  refine wpAny_bind (wpAny_rule ?_)
  have I2 : Inv X pins σ (upd H s.heap.objs.size (.dK [])) { s with heap := h', toks := tk } := I1.kept hk
  have htp2 : h'.IsTuple a its.toArray := by
    obtain ⟨o2, h1, h2⟩ := htp
    exact ⟨o2, hk _ _ h1, h2⟩
  refine wpAny_bind (wpAny_pyIter_tuple (s := { s with heap := h', toks := tk }) htp2 ?_)
  refine wpAny_pure ⟨plainId_quiet plain_dul _, ?_⟩
  have I3 := I2.kept (h' := h'.push { cls := .type "tuple_iterator", data := .fields #[.ref a, .int 0 0] }) (t' := tk) fun b ob e => Heap.get?_push_of_some _ e
  have hfi : upd H s.heap.objs.size (.dK []) h'.objs.size = none := I2.hok.fresh (Nat.le_refl _)
  have hdi : s.heap.objs.size ≠ h'.objs.size := by
    intro z
    rw [← z, upd_same] at hfi
    cases hfi
  have hfi0 : H h'.objs.size = none := by rw [upd_ne hdi.symm] at hfi; exact hfi
  have hia : h'.objs.size ≠ a := fun z => by
    rw [z, ha] at hfi0
    cases hfi0
  have hsq1 : SqT X.K (upd H s.heap.objs.size (.dK [])) a vs := .inl (.inr ⟨o, by rw [upd_ne had.symm]; exact ha⟩)
  have L := dict_loop (X := X) hc (A := X.A.in1) (I.ok.hd hc) (pins := pins) (σ := σ) (H0 := H) (Q := Q) (a := a) (d := s.heap.objs.size) (it := h'.objs.size) (vs := vs) had hia hdi vs.length 0 _ [] ps 0 0 (by omega) I3 ⟨_, Heap.get?_push_size _ rfl, rfl, rfl⟩ (I2.fpOk (Nat.le_refl _) hfi) hsq1
    (Paired.mapP hp fun v p ⟨t, e, ht⟩ => ⟨t, e, fun z => ?_, ht⟩) (by simpa using hlen) hfi0 (q _ hfr)
  · refine codeAny_mono L fun r s' hr => ?_
    cases r with
    | error e => exact False.elim hr
    | ok f =>
      cases f with
      | ret v =>
        obtain ⟨e, H', I', q'⟩ := hr
        exact ⟨e, .ref s.heap.objs.size, H', I', rfl, q'⟩
      | next => exact False.elim hr
      | brk => exact False.elim hr
      | cont => exact False.elim hr
  · obtain ⟨its2, _, ⟨o2, h2, _⟩, _⟩ := I.tuple ht
    rw [z] at h2
    exact absurd (Heap.lt_size h2) (Nat.lt_irrefl _)
end
end L2
set_option Elab.async false
set_option linter.all false
set_option maxRecDepth 100000
set_option maxHeartbeats 4000000
namespace L2
open PySem PySem.Spec PyProof.Rows PySem.W
section
variable {prog : Program} {w : World} {A : Around} {E : Value → Shared → Prop} {s : Shared} {T : String} {r d : Addr} {n : Nat} {P : Nat → Value → Prop} {OK : Heap → Prop}
theorem collect_src {Q : List Value → Shared → Prop} (K : KdlSrc prog w T r d n P OK) (hh : A.handled = none) (hok : OK s.heap) (hn : n ≤ sizeLine)
    (hQ : ∀ (h' : Heap) (tk : Nat) (acc : Array Value), (∀ b o, s.heap.get? b = some o → h'.get? b = some o) → ItemsOf P acc n → Q acc.toList { s with heap := h', toks := tk }) : wpAny (model prog w) A (collect (.ref r)) Q E s := by
  unfold collect
  refine wpAny_bind (wpAny_runValue (codeAny_builtin F.entry_proto_collect ?_))
  rw [Around.under_plainId F.plain_proto_collect _]
  show wpAny _ A.in1 (newList [] >>= fun l => again (.builtin "list.__iadd__" ⟨[l, .ref r], []⟩)) _ _ s
  refine wpAny_bind (wpAny_newObj_type ?_)
  refine wpAny_pure ⟨plainId_quiet F.plain_list_iadd _, codeAny_builtin F.entry_list_iadd ?_⟩
  rw [Around.under_plainId F.plain_list_iadd _]
  have hS : (s.heap.push { cls := .type "list", data := .seq ([] : List Value).toArray }).get? s.heap.objs.size = some { cls := .type "list", data := .seq #[] 0 } := Heap.get?_push_size _ rfl
  have hlt := K.there _ hok
  show wpAny _ A.in1 (Builtin.List.listExtendWith (.ref s.heap.objs.size) (.ref r) (.ref s.heap.objs.size)) _ _ _
  have fin' : ∀ (h' : Heap) (tk c' : Nat) (acc' : Array Value), (∀ b o, b ≠ s.heap.objs.size → (s.heap.push { cls := .type "list", data := .seq ([] : List Value).toArray }).get? b = some o → h'.get? b = some o) → h'.get? s.heap.objs.size = some { cls := .type "list", dict := none, data := .seq acc' c', slots := #[] } → ItemsOf P acc' n →
      wpAny (model prog w) A (match Value.ref s.heap.objs.size with
      | Value.ref a => do
        match (← load a).data with
          | Data.seq xs _ => pure xs.toList
          | _ => unsupported "internal:collect"
      | _ => unsupported "internal:collect") Q E { s with heap := h', toks := tk } := by
    intro h' tk c' acc' hk hS' hacc
    show wpAny _ A (load s.heap.objs.size >>= _) _ _ _
    refine wpAny_bind (wpAny_load hS' ?_)
    exact wpAny_pure (hQ h' tk acc' (fun b o e => hk b o (Nat.ne_of_lt (Heap.lt_size e)) (Heap.get?_push_of_some _ e)) hacc)
  refine wpAny_mono (kdl_extend (A := A) (R := fun r s' => ∃ (h' : Heap) (tk c' : Nat) (acc' : Array Value), r = .ok (.ret (.ref s.heap.objs.size)) ∧ s' = { s with heap := h', toks := tk } ∧ (∀ b o, b ≠ s.heap.objs.size → (s.heap.push { cls := .type "list", data := .seq ([] : List Value).toArray }).get? b = some o → h'.get? b = some o) ∧ h'.get? s.heap.objs.size = some { cls := .type "list", dict := none, data := .seq acc' c', slots := #[] } ∧ ItemsOf P acc' n)
    (s := { s with heap := s.heap.push { cls := .type "list", data := .seq ([] : List Value).toArray } }) K hh (K.keep _ _ hok fun b _ o e => Heap.get?_push_of_some _ e) s.heap.objs.size (Nat.ne_of_gt hlt.1) (Nat.ne_of_gt hlt.2) (.ref s.heap.objs.size) 0 hS (fun h' tk acc' c' hk hS' hacc => ⟨h', tk, c', acc', rfl, rfl, hk, hS', hacc⟩) hn) (fun fin s' h => ?_) (fun e s' h => ?_)
  · cases fin with
    | done f =>
      obtain ⟨h', tk, c', acc', e, rfl, hk, hS', hacc⟩ := h
      cases e
      exact fin' h' tk c' acc' hk hS' hacc
    | again c' => exact ⟨h.1, codeAny_mono h.2 fun r s'' hr => by obtain ⟨h', tk, c', acc', rfl, rfl, hk, hS', hacc⟩ := hr; exact fin' h' tk c' acc' hk hS' hacc⟩
  · obtain ⟨h', tk, c', acc', e, _⟩ := h
    cases e
theorem code_tuple_new_src {Q₁ : Value → Shared → Prop} (K : KdlSrc prog w "dict" r d n P OK) (hh : A.handled = none) (hok : OK s.heap)
    (h : ∀ (h' : Heap) (tk : Nat) (acc : Array Value), (∀ b o, s.heap.get? b = some o → h'.get? b = some o) → ItemsOf P acc n → Q₁ (.ref h'.objs.size) { s with heap := h'.push { cls := .type "tuple", data := .seq acc }, toks := tk }) (hsz : n ≤ sizeLine) :
    codeAny (model prog w) A (.call (.builtin "tuple.__new__") ⟨[.type "tuple", .ref r], []⟩) (wants Q₁ E) s := by
  refine codeAny_of_tree ?_
  show wpAny _ A.in1 (do checkBuiltinCall "tuple.__new__" ⟨[.type "tuple", .ref r], []⟩; again (.builtin "tuple.__new__" ⟨[.type "tuple", .ref r], []⟩)) _ _ s
  refine wpAny_bind (wpAny_of_eq (F.newCall_tuple_1 _) (wpAny_pure ⟨plainId_quiet F.plain_tuple_new _, codeAny_builtin F.entry_tuple_new ?_⟩))
  rw [Around.under_plainId F.plain_tuple_new _]
  have hsub := sub_tuple_self
  have hinit := init_tuple_lookup
  have hmh := madeHere_tuple
  have hTI := K.type s hok
  have hh1 : A.in1.handled = none := hh
  wp_walk using wpAny_typeOf hTI, collect_src (A := A.in1) K hh1 hok hsz
  intro h' tk acc hm hacc
  show wpAny _ _ (Builtin.Tuple.tupleExact acc.toList.toArray >>= fun v => ret v) _ _ _
  unfold Builtin.Tuple.tupleExact
  refine wpAny_bind (wpAny_newObj_type ?_ (by show acc.toList.toArray.size ≤ sizeLine; simp only [Array.toArray_toList]; rw [hacc.1]; exact hsz))
  refine wpAny_pure ?_
  have e : acc.toList.toArray = acc := by simp
  rw [e]
  exact h h' tk acc hm hacc
theorem call_tuple_src {Q : Value → Shared → Prop} (K : KdlSrc prog w "dict" r d n P OK) (hh : A.handled = none) (hok : OK s.heap) (hsz : n ≤ sizeLine)
    (hQ : ∀ (h' : Heap) (tk : Nat) (acc : Array Value), (∀ b o, s.heap.get? b = some o → h'.get? b = some o) → ItemsOf P acc n → Q (.ref h'.objs.size) { s with heap := h'.push { cls := .type "tuple", data := .seq acc }, toks := tk }) :
    wpAny (model prog w) A (call (.type "tuple") [.ref r]) Q E s := by
  refine callType_codes (Q₁ := fun obj s₁ => s₁.TypeIs obj "tuple" ∧ Q obj s₁) F.called_tuple (F.typeCall_tuple_1 _) F.entry_object_init
    (code_tuple_new_src K hh hok (fun h' tk acc hm hacc => ⟨⟨_, Heap.get?_push_size _ rfl, rfl⟩, hQ h' tk acc hm hacc⟩) hsz) fun obj s₁ h₁ => ?_
  exact ⟨h₁.1, F.args_object_init_2 obj _, object_init_meets F.called_tuple.init.lookup F.called_tuple.made (by decide) prog w A.in1 _ s₁ ⟨h₁.1, rfl, h₁.2⟩⟩
end
theorem is_kV {P : Program} {w : World} {k : Key} {u : Value} (h : (mixKind P w).is k u = true) : RelV (kV k) u := by
  rcases keyIs_shape (show keyIs k u = true from h) with ⟨i, t, rfl, rfl⟩ | ⟨x, t, rfl, rfl⟩
  · exact ⟨t, rfl⟩
  · exact ⟨t, rfl⟩
def keysV (kvs : List (Key × V)) : List V := kvs.map fun kv => kV kv.1
theorem length_keysV (kvs : List (Key × V)) : (keysV kvs).length = kvs.length := List.length_map _
theorem vals_keys {P : Program} {w : World} : ∀ {kvs : List (Key × V)} {vs : List (Key × Value)} {us : List Value}, KV kvs vs → us.length = vs.length → (∀ (j : Nat) (u : Value), us[j]? = some u → ∃ k x, vs[j]? = some (k, x) ∧ (mixKind P w).is k u = true) → Vals (keysV kvs) us
  | _, _, [], .nil, _, _ => .nil
  | _, _, _ :: _, .nil, hl, _ => by simp at hl
  | _, _, [], .cons _ _, hl, _ => by simp at hl
  | _, _, u :: us, .cons (a := p) (b := q) h hr, hl, hv => by
    obtain ⟨k, x, e, hk⟩ := hv 0 u rfl
    simp only [List.getElem?_cons_zero, Option.some.injEq] at e
    subst e
    have h1 : p.1 = k := h.1
    refine .cons (by show RelV (kV p.1) u; rw [h1]; exact is_kV hk) (vals_keys hr (by simpa using hl) fun j v hj => by simpa using hv (j + 1) v (by simpa using hj))
section
variable {X : Cx}
theorem call_tupleD (hc : X.calm = true) : CallR X (.type "tuple") (fun xs H Q => ∃ a kvs, xs = [.ref a] ∧ Rd H a (.dK kvs) ∧ ∀ l, H l = none → Q (.ref l) (upd H l (.tup (keysV kvs)))) := by
  intro pins s σ H xs us Q I r h
  obtain ⟨a, kvs, rfl, ha, q⟩ := h
  obtain ⟨u, rfl, ru⟩ := vals1 r
  cases ru
  obtain ⟨z, hsm, vs, rel, dd⟩ := dk_rd I.hok ha
  have hl := rel.length
  obtain ⟨ep, hat⟩ := dd.dictAt
  refine call_tuple_src (kdl_dict (knd := mixKind X.prog X.w) (kvs := vs) (ep := ep) hsm) (I.ok.hd hc) hat (by omega) fun h' tk acc hk hacc => ?_
  have I1 : Inv X pins σ H { s with heap := h', toks := tk } := I.kept (t' := tk) hk
  have hv : Vals (keysV kvs) acc.toList := vals_keys rel (by rw [Array.length_toList]; exact hacc.1) fun j u e => hacc.2 j u (by rw [← Array.getElem?_toList]; exact e)
  have I2 : Inv X pins σ (upd H h'.objs.size (.tup (keysV kvs))) { s with heap := h'.push { cls := .type "tuple", data := .seq acc }, toks := tk } :=
    I1.laid (t' := tk) (fun b o e => Heap.get?_push_of_some _ e) (Nat.le_refl _) (show ObjOk X.prog X.w _ _ _ (.tup (keysV kvs)) from ⟨by rw [length_keysV]; exact z, acc.toList, hv, by
      have := IsTup.new h' acc
      simpa using this⟩)
  exact ⟨.ref h'.objs.size, _, I2, rfl, q _ (I1.hok.fresh (Nat.le_refl _))⟩
end
end L2
set_option Elab.async false
set_option linter.all false
set_option maxRecDepth 100000
set_option maxHeartbeats 4000000
namespace L2
open PySem PySem.Spec PyProof.Rows
def kindS : Rw → Str
  | .bring _ _ => "bring"
  | .give _ _ => "give"
  | .set _ _ => "set"
  | .take _ => "take"
  | .say _ _ => "say"
  | .need _ => "need"
  | .ask _ _ => "ask"
  | .part _ => "part"
  | .doo _ => "do"
def namesIt (k : Str) : Rw → Option Str
  | .bring p _ => if ("bring" : Str) = k then some p else none
  | .ask p _ => if ("ask" : Str) = k then some p else none
  | _ => none
def addN (l : List Str) (x : Str) : List Str := if x ∈ l then l else l ++ [x]
def stepN (k : Str) (l : List Str) (r : Rw) : List Str := match namesIt k r with
  | none => l
  | some x => addN l x
def namedOf (k : Str) (rs : List Rw) : List Str := rs.foldl (stepN k) []
theorem namedOf_snoc (k : Str) (rs : List Rw) (r : Rw) : namedOf k (rs ++ [r]) = stepN k (namedOf k rs) r := by
  unfold namedOf; rw [List.foldl_append]; rfl
theorem addN_len (l : List Str) (x : Str) : (addN l x).length ≤ l.length + 1 := by
  unfold addN; split <;> simp
theorem stepN_len (k : Str) (l : List Str) (r : Rw) : (stepN k l r).length ≤ l.length + 1 := by
  unfold stepN
  split
  · omega
  · exact addN_len _ _
theorem namedOf_len (k : Str) : ∀ (rs : List Rw) (l : List Str), (rs.foldl (stepN k) l).length ≤ l.length + rs.length
  | [], l => by simp
  | r :: rs, l => by
    have h1 := namedOf_len k rs (stepN k l r)
    have h2 := stepN_len k l r
    simp only [List.foldl_cons, List.length_cons]; omega
def setD (l : List Str) : List (Key × V) := l.map fun x => (Sum.inr x, .bl true)
theorem setD_len (l : List Str) : (setD l).length = l.length := List.length_map _
theorem setD_keys (l : List Str) : keysV (setD l) = l.map V.str := by
  unfold keysV setD
  rw [List.map_map]
  rfl
theorem setD_any (l : List Str) (x : Str) : ((setD l).any fun kv => decide (kv.1 = Sum.inr x)) = decide (x ∈ l) := by
  induction l with
  | nil => simp [setD]
  | cons a r ih =>
    have : setD (a :: r) = (Sum.inr a, .bl true) :: setD r := rfl
    rw [this, List.any_cons, ih]
    by_cases e : a = x
    · subst e; simp
    · have h1 : ¬ (Sum.inr a : Key) = Sum.inr x := fun z => e (Sum.inr.inj z)
      have h2 : ¬ x = a := fun z => e z.symm
      simp [e, h2]
theorem setD_put (l : List Str) (x : Str) : putK (setD l) (Sum.inr x) (.bl true) = setD (addN l x) := by
  unfold putK
  rw [setD_any]
  unfold addN
  by_cases e : x ∈ l
  · rw [if_pos (by simpa using e), if_pos e]
    unfold setD
    rw [List.map_map]
    refine List.map_congr_left fun a _ => ?_
    show (if (Sum.inr a : Key) = Sum.inr x then ((Sum.inr a : Key), V.bl true) else (Sum.inr a, V.bl true)) = _
    split <;> rfl
  · rw [if_neg (by simpa using e), if_neg e]
    unfold setD
    rw [List.map_append]
    rfl
def PartsF (H : Hp) (a : Addr) (ps : List Pt) : Prop := ∃ o vs, H a = some (.frz o (.tup vs)) ∧ o.dict = none ∧ Paired (PartAt H) vs ps
theorem Same.partsF {H H' : Hp} (s : Same H H') {a : Addr} {ps : List Pt} (h : PartsF H a ps) : PartsF H' a ps := by
  obtain ⟨o, vs, h1, h2, h3⟩ := h
  exact ⟨o, vs, s _ _ h1, h2, Paired.mapP h3 fun _ _ q => q.mono s.tups⟩
theorem foldP_get : ∀ (ps : List (Str × V)) (m : List (Key × V)) (n : Str) (v : V), (ps.map (·.1)).Nodup → ((n, v) ∈ ps ∨ ((∀ p ∈ ps, p.1 ≠ n) ∧ valV m (Sum.inr n) = some v)) → valV (foldP ps m) (Sum.inr n) = some v
  | [], m, n, v, _, h => by
    rcases h with h | h
    · simp at h
    · exact h.2
  | p :: ps, m, n, v, hn, h => by
    rw [List.map_cons, List.nodup_cons] at hn
    show valV (foldP ps (putK m (Sum.inr p.1) p.2)) _ = _
    refine foldP_get ps _ n v hn.2 ?_
    rcases h with h | ⟨h1, h2⟩
    · rcases List.mem_cons.mp h with e | e
      · refine .inr ⟨fun q hq z => hn.1 ?_, ?_⟩
        · rw [← e]; show n ∈ _; rw [← z]; exact List.mem_map_of_mem hq
        · rw [← e]
          show valV (putK m (Sum.inr n) v) (Sum.inr n) = _
          rw [valV_put, if_pos rfl]
      · exact .inl e
    · refine .inr ⟨fun q hq => h1 q (List.mem_cons_of_mem _ hq), ?_⟩
      rw [valV_put, if_neg (fun z => h1 p List.mem_cons_self (Sum.inr.inj z).symm)]
      exact h2
theorem RowAt.kind {H : Hp} {r : Addr} {rw : Rw} (h : RowAt H r rw) : ∃ x rest, H r = some (.tup (.str (kindS rw) :: x :: rest)) := by
  cases rw with
  | bring p ps => obtain ⟨t, h1, h2⟩ := h; exact ⟨_, _, h1⟩
  | give o g => exact ⟨_, _, h⟩
  | set o ts => obtain ⟨t, h1, h2⟩ := h; exact ⟨_, _, h1⟩
  | take o => exact ⟨_, _, h⟩
  | say ts w => obtain ⟨t, h1, h2⟩ := h; exact ⟨_, _, h1⟩
  | need ts => obtain ⟨t, h1, h2⟩ := h; exact ⟨_, _, h1⟩
  | ask p w => exact ⟨_, _, h⟩
  | part p => exact ⟨_, _, h⟩
  | doo p => exact ⟨_, _, h⟩
theorem RowAt.named {H : Hp} {r : Addr} {rw : Rw} {k : Str} (h : RowAt H r rw) (hk : k = "bring" ∨ k = "ask") : (kindS rw = k ∧ ∃ p rest, namesIt k rw = some p ∧ H r = some (.tup (.str k :: .str p :: rest))) ∨ (kindS rw ≠ k ∧ namesIt k rw = none) := by
  rcases hk with rfl | rfl
  · cases rw with
    | bring p ps => obtain ⟨t, h1, h2⟩ := h; exact .inl ⟨rfl, p, _, by simp [namesIt], h1⟩
    | ask p w => exact .inr ⟨by simp only [kindS]; decide +kernel, by simp only [namesIt]; rw [if_neg (by decide +kernel)]⟩
    | _ => exact .inr ⟨by simp only [kindS]; decide +kernel, rfl⟩
  · cases rw with
    | ask p w => exact .inl ⟨rfl, p, _, by simp [namesIt], h⟩
    | bring p ps => exact .inr ⟨by simp only [kindS]; decide +kernel, by simp only [namesIt]; rw [if_neg (by decide +kernel)]⟩
    | _ => exact .inr ⟨by simp only [kindS]; decide +kernel, rfl⟩
end L2
set_option Elab.async false
set_option linter.all false
set_option maxRecDepth 100000
set_option maxHeartbeats 4000000
namespace L2
open PySem PySem.Spec PyProof.Rows
section
variable {X : Cx}
end
def lets : Str := "abcdefghijklmnopqrstuvwxyz"
def letAt (i : Int) : Nat := lets.cps.toList.getD i.toNat 0
def sgAt (i : Int) : Nat := ("abcdefghijklmnopqrstuvwxyz0123456789" : Str).cps.toList.getD i.toNat 0
theorem lets_inj : ∀ i : Nat, i < 26 → ∀ j : Nat, j < 26 → lets.cps.toList.getD i 0 = lets.cps.toList.getD j 0 → i = j := by decide +kernel
theorem lets_len : lets.cps.toList.length = 26 := by decide +kernel
theorem letAt_inj {i j : Int} (hi : 0 ≤ i) (hi2 : i < 26) (hj : 0 ≤ j) (hj2 : j < 26) (h : letAt i = letAt j) : i = j := by
  have := lets_inj i.toNat (by omega) j.toNat (by omega) h
  omega
end L2
set_option Elab.async false
set_option linter.all false
set_option maxRecDepth 100000
set_option maxHeartbeats 4000000
namespace L2
open PySem PySem.Spec PyProof.Rows
section
variable {X : Cx}
theorem op_neL_nil (hu : X.A.units < cLine) : OpR X (compareOp .NotEq) (fun x y H Q => ∃ a b xs, x = .ref a ∧ y = .ref b ∧ SqL X.K H a xs ∧ SqL X.K H b [] ∧ Q (.bl (!xs.isEmpty)) H) := by
  intro pins s σ H x y v u Q I rx ry h
  obtain ⟨a, b, xs, rfl, rfl, ha, hb, q⟩ := h
  cases rx
  cases ry
  obtain ⟨its, r1, p1, _⟩ := I.list ha
  obtain ⟨its2, r2, p2, _⟩ := I.list hb
  cases r2
  cases xs with
  | nil =>
    cases r1
    exact SeqAt.RcNeAt.lists (e := fun _ => true) p1.isList p2.isList rfl hu (fun j h1 _ => absurd h1 (by simp)) _ _ _ _ ⟨.bl false, H, I, rfl, q⟩
  | cons c r =>
    have hl1 := r1.length
    exact SeqAt.RcNeAt.lists_lengths p1.isList p2.isList (by rw [bne_iff_ne]; intro z; simp only [List.size_toArray, List.length_nil, List.length_cons] at z hl1; omega) hu _ _ _ _ ⟨.bl true, H, I, rfl, q⟩
end
end L2
set_option Elab.async false
set_option linter.all false
set_option maxRecDepth 100000
set_option maxHeartbeats 4000000
namespace L2
open PySem PySem.Spec PyProof.Rows
def ItZl (K : PySem.W.Frag) (a b : Addr) : It :=
  ⟨fun i H => ∃ xs ys x y, SqL K H a xs ∧ SqL K H b ys ∧ xs[i]? = some x ∧ ys[i]? = some y,
   fun i H x H' => ∃ p u v, (∀ xs, SqL K H a xs → xs[i]? = some u) ∧ (∀ ys, SqL K H b ys → ys[i]? = some v) ∧ H p = none ∧ x = .ref p ∧ H' = upd H p (.tup [u, v]),
   fun i H => ∃ xs ys, SqL K H a xs ∧ SqL K H b ys ∧ xs.length = i ∧ ys.length = i⟩
def ZipSt (n a b : Addr) (i : Nat) (h : Heap) : Prop := IsZip h (n + 4) (n + 2) (n + 3) .none ∧ IsPair h (n + 2) (.ref n) (.ref (n + 1)) ∧ (∃ x y, IsPair h (n + 3) x y) ∧ h.IsListIter n a i ∧ h.IsListIter (n + 1) b i
def zipFp (n : Addr) : List Addr := [n + 4, n + 2, n + 3, n, n + 1]
theorem ZipSt.obj {n a b : Addr} {i : Nat} {h : Heap} (st : ZipSt n a b i h) : ∀ c ∈ zipFp n, ∃ o, h.get? c = some o ∧ ∀ v, o.data ≠ .cell v := by
  obtain ⟨h1, h2, ⟨x, y, h3⟩, ⟨o4, e4, c4, d4⟩, ⟨o5, e5, c5, d5⟩⟩ := st
  intro c hc
  simp only [zipFp, List.mem_cons, List.not_mem_nil, or_false] at hc
  rcases hc with rfl | rfl | rfl | rfl | rfl
  · exact ⟨_, h1, fun v z => nomatch z⟩
  · exact ⟨_, h2, fun v z => nomatch z⟩
  · exact ⟨_, h3, fun v z => nomatch z⟩
  · exact ⟨o4, e4, fun v z => by rw [d4] at z; cases z⟩
  · exact ⟨o5, e5, fun v z => by rw [d5] at z; cases z⟩
theorem ZipSt.keep {n a b : Addr} {i : Nat} {h h' : Heap} (st : ZipSt n a b i h) (kk : ∀ c ∈ zipFp n, ∀ o, h.get? c = some o → h'.get? c = some o) : ZipSt n a b i h' := by
  obtain ⟨h1, h2, ⟨x, y, h3⟩, ⟨o4, e4, r4⟩, ⟨o5, e5, r5⟩⟩ := st
  exact ⟨kk _ (by simp [zipFp]) _ h1, kk _ (by simp [zipFp]) _ h2, ⟨x, y, kk _ (by simp [zipFp]) _ h3⟩, ⟨o4, kk _ (by simp [zipFp]) _ e4, r4⟩, ⟨o5, kk _ (by simp [zipFp]) _ e5, r5⟩⟩
theorem turn_zipL {P : Program} {w : World} {K : PySem.W.Frag} {elts : List Expr} {k : Nat} {pos : Pos} (n a b : Addr) (ha : a < n) (hb : b < n) :
    Turn P w K (.Tuple elts k pos) (ItZl K a b) (zipFp n) (n + 4) (ZipSt n a b) where
  mem := by simp [zipFp]
  obj := fun i h st => st.obj
  keep := fun i h h' st kk => st.keep kk
  item := by
    intro X hP hw hK hc i pins s σ H E I hf st hg
    subst hP hw hK
    obtain ⟨xs, ys, x, y, hq1, hq2, hx, hy⟩ := hg
    obtain ⟨its1, rv1, p1, hz1⟩ := I.list hq1
    obtain ⟨its2, rv2, p2, hz2⟩ := I.list hq2
    obtain ⟨u1, hu1, ru1⟩ := rv1.get hx
    obtain ⟨u2, hu2, ru2⟩ := rv2.get hy
    have W := WalksT.zip2 (prog := X.prog) (w := X.w) (A := X.A) (I.ok.hd hc) (n + 4) (n + 2) (n + 3) n (n + 1) a b (PySem.W.ktu_apart n a b ha hb) its1.toArray its2.toArray
    have g1 := (List.getElem?_eq_some_iff.mp hu1).1
    have g2 := (List.getElem?_eq_some_iff.mp hu2).1
    have hsub : ∀ c, c ∈ [n + 4, n + 3, n, n + 1] → c ∈ zipFp n := fun c hc => by
      simp only [zipFp, List.mem_cons, List.not_mem_nil, or_false] at hc ⊢
      rcases hc with z | z | z | z <;> simp [z]
    have hfw : ∀ c ∈ [n + 4, n + 3, n, n + 1], FpOk X pins H c := fun c hc => hf c (hsub c hc)
    refine W.item i s _ _ (by simp only [List.size_toArray]; omega) ⟨st.1, st.2.1, st.2.2.1, st.2.2.2.1, st.2.2.2.2, p1.isList, p2.isList⟩ fun T vals h' tk hPt hT hTup hM hk => ?_
    obtain ⟨w1, w2, hw1, hw2, rfl⟩ := hPt
    have e1 : w1 = u1 := by
      have : its1[i]? = some w1 := by simpa using hw1
      rw [hu1] at this
      exact (Option.some.inj this).symm
    have e2 : w2 = u2 := by
      have : its2[i]? = some w2 := by simpa using hw2
      rw [hu2] at this
      exact (Option.some.inj this).symm
    subst e1 e2
    have I1 : Inv X pins σ H { s with heap := h', toks := tk } := I.turnedL hk hfw
    have hHT : H T = none := I.hok.fresh hT
    have fT : FpOk X pins H T := I.fpOk hT hHT
    refine ⟨_, rfl, W.go elts k pos i T { s with heap := h', toks := tk } _ _ hM fun h2 st2 hk2 => ?_⟩
    have I2' := I1.turnedL (h' := h2) (t' := tk) hk2 hfw
    have I2 : Inv X pins σ H { s with heap := h2, toks := tk } := I2'
    have hT2 : h2.IsTuple T #[w1, w2] := by
      obtain ⟨o, ho, r⟩ := hTup
      exact ⟨o, hk2 T o (W.apart i T h' hM) ho, r⟩
    have I3 : Inv X pins σ (upd H T (.tup [x, y])) { s with heap := h2, toks := tk } :=
      I2.track fT ⟨by show 2 ≤ sizeLine; decide, [w1, w2], .cons ru1 (.cons ru2 .nil), hT2⟩
    refine ⟨.ref T, _, I3, rfl, ⟨T, x, y, fun zs hz' => by rw [I.list_inj hz' hq1]; exact hx, fun zs hz' => by rw [I.list_inj hz' hq2]; exact hy, hHT, rfl, rfl⟩, ⟨st2.1, st2.2.1, st2.2.2.1, st2.2.2.2.1, st2.2.2.2.2.1⟩, fun c hc' => ?_⟩
    obtain ⟨o, ho, _⟩ := st.obj c hc'
    have hlt := Heap.lt_size ho
    rw [upd_ne (fun z => by rw [z] at hlt; exact absurd hlt (Nat.not_lt.mpr hT))]
    exact (hf c hc').1
  done := by
    intro X hP hw hK hc i pins s σ H E I hf st hg
    subst hP hw hK
    obtain ⟨xs, ys, hq1, hq2, hx, hy⟩ := hg
    obtain ⟨its1, rv1, p1, hz1⟩ := I.list hq1
    obtain ⟨its2, rv2, p2, hz2⟩ := I.list hq2
    have W := WalksT.zip2 (prog := X.prog) (w := X.w) (A := X.A) (I.ok.hd hc) (n + 4) (n + 2) (n + 3) n (n + 1) a b (PySem.W.ktu_apart n a b ha hb) its1.toArray its2.toArray
    have l1 := rv1.length
    have l2 := rv2.length
    have hmin : min its1.toArray.size its2.toArray.size = i := by simp only [List.size_toArray]; omega
    rw [hmin] at W
    have hsub : ∀ c, c ∈ [n + 4, n + 3, n, n + 1] → c ∈ zipFp n := fun c hc => by
      simp only [zipFp, List.mem_cons, List.not_mem_nil, or_false] at hc ⊢
      rcases hc with z | z | z | z <;> simp [z]
    refine W.done s _ _ ⟨st.1, st.2.1, st.2.2.1, st.2.2.2.1, st.2.2.2.2, p1.isList, p2.isList⟩ fun h' tk hk => ⟨rfl, ?_⟩
    exact I.turnedL hk fun c hc => hf c (hsub c hc)
  self := fun _ _ _ _ _ st h => wpAny_pyIter_zip st.1 h
section
variable {X : Cx} {elts : List Expr} {k : Nat} {tpos : Pos}
def iZipL (K : PySem.W.Frag) (ta : TA) : TI := fun σ H R => ta σ H fun vs H1 => ∃ a b, vs = [.ref a, .ref b] ∧ (∃ xs, SqL K H1 a xs) ∧ (∃ ys, SqL K H1 b ys) ∧ R (ItZl K a b) H1
theorem pi_zipL {e1 e2 : Expr} {ta : TA} {p pos : Pos} (hg : Gl X "zip") (hm : X.mg "zip" = none) (ha : PA X [e1, e2] ta) (hs : starEach [e1, e2] X.env = (false, eval e1 X.env) :: starEach [e2] X.env := by rfl) (hs2 : ∀ pos, (backTo pos (starEach [e2] X.env)).any (·.1) = false := by intro _; rfl) :
    PI X (.Tuple elts k tpos) (.Call (.Name "zip" p) [e1, e2] [] pos) (iZipL X.K ta) := by
  intro pins s σ H R I h
  refine Call_ (ld_blt I hg hm boot_zip (PyProof.Rows.callWith_type1 (thn (ha pos pins s σ H _ I h) fun us s1 ⟨vs, H1, I1, r1, q1⟩ => ?_) hs (hs2 _)))
  obtain ⟨a, b, e, ⟨xs, hq1⟩, ⟨ys, hq2⟩, q⟩ := q1
  subst e
  cases r1 with
  | cons ra rr =>
  cases rr with
  | cons rb rr =>
    cases rr
    cases ra
    cases rb
    obtain ⟨its1, rv1, p1, hz1⟩ := I1.list hq1
    obtain ⟨its2, rv2, p2, hz2⟩ := I1.list hq2
    have la : a < s1.heap.objs.size := by obtain ⟨o, ho, _⟩ := p1.isList; exact Heap.lt_size ho
    have lb : b < s1.heap.objs.size := by obtain ⟨o, ho, _⟩ := p2.isList; exact Heap.lt_size ho
    refine call_zip_2 p1.isList p2.isList fun h' z1 z2 z3 z4 z5 z6 hk => ?_
    have I2 : Inv X pins σ H1 { s1 with heap := h' } := I1.kept (t' := s1.toks) hk
    refine wpAny_pyIter_zip z1 ⟨s1.heap.objs.size + 4, zipFp s1.heap.objs.size, _, _, H1, rfl, I2, turn_zipL s1.heap.objs.size a b la lb, ⟨z1, z2, ⟨_, _, z3⟩, z4, z5⟩, fun c hc => ?_, q⟩
    have hc' : s1.heap.objs.size ≤ c := by
      simp only [zipFp, List.mem_cons, List.not_mem_nil, or_false] at hc
      rcases hc with z | z | z | z | z <;> rw [z] <;> first | exact Nat.le_refl _ | exact Nat.le_add_right _ _
    exact I1.fpOk hc' (I1.hok.fresh hc')
end
end L2
set_option Elab.async false
set_option linter.all false
set_option maxRecDepth 100000
set_option maxHeartbeats 4000000
namespace L2
open PySem PySem.Spec PyProof.Rows
end L2
set_option Elab.async false
set_option linter.all false
set_option maxRecDepth 100000
set_option maxHeartbeats 4000000
namespace L2
open PySem PySem.Spec PyProof.Rows
end L2
set_option Elab.async false
set_option linter.all false
set_option maxRecDepth 100000
set_option maxHeartbeats 4000000
namespace RV
open PySem PySem.Spec PyProof.Rows
theorem own_rv : Manifest.owners.lookup (String.ofList ['d', 'e', 's', 'r', 'e', 'v', 'e', 'r'].reverse) = some Manifest.sig_reversed := by kernel_rfl
theorem rv_next : Slot "reversed" "__next__" "reversed.__next__" :=
  .of (owner := "reversed") (n := "__next__") (by rw [typeLookup_type, builtinLookup_eq_fast]; kernel_rfl) (by decide +kernel) (by decide +kernel) (by decide +kernel)
    (by first | exact .inl (by decide +kernel) | exact .inr (by decide +kernel)) (by rw [isSubtype_type]; kernel_rfl)
theorem rv_iter : Slot "reversed" "__iter__" "reversed.__iter__" :=
  .of (owner := "reversed") (n := "__iter__") (by rw [typeLookup_type, builtinLookup_eq_fast]; kernel_rfl) (by decide +kernel) (by decide +kernel) (by decide +kernel)
    (by first | exact .inl (by decide +kernel) | exact .inr (by decide +kernel)) (by rw [isSubtype_type]; kernel_rfl)
theorem rv_hint : Slot "reversed" "__length_hint__" "reversed.__length_hint__" :=
  .of (owner := "reversed") (n := "__length_hint__") (by rw [typeLookup_type, builtinLookup_eq_fast]; kernel_rfl) (by decide +kernel) (by decide +kernel) (by decide +kernel)
    (by first | exact .inl (by decide +kernel) | exact .inr (by decide +kernel)) (by rw [isSubtype_type]; kernel_rfl)
theorem en_next : entryFor table "reversed.__next__" = some Builtin.«reversed.__next__» := entryFor_of_tree (by kernel_rfl)
theorem en_hint : entryFor table "reversed.__length_hint__" = some Builtin.«reversed.__length_hint__» := entryFor_of_tree (by kernel_rfl)
theorem en_iter : entryFor table "reversed.__iter__" = some Builtin.«dict_keyiterator.__iter__» :=
  entryFor_alias (id' := "dict_keyiterator.__iter__") (by kernel_rfl) (by first | rfl | decide +kernel | (unfold String.splitOn; simp +decide [String.splitOnAux])) (by decide +kernel) (by kernel_rfl)
theorem ar_next (a : Value) : argsOk "reversed.__next__" ⟨[a], []⟩ := by
  unfold argsOk; rw [signature?_of (id := "reversed.__next__") (n := ['_', '_', 't', 'x', 'e', 'n', '_', '_']) (o := ['d', 'e', 's', 'r', 'e', 'v', 'e', 'r']) (by kernel_rfl) own_rv]; kernel_rfl
theorem ar_iter (a : Value) : argsOk "reversed.__iter__" ⟨[a], []⟩ := by
  unfold argsOk; rw [signature?_of (id := "reversed.__iter__") (n := ['_', '_', 'r', 'e', 't', 'i', '_', '_']) (o := ['d', 'e', 's', 'r', 'e', 'v', 'e', 'r']) (by kernel_rfl) own_rv]; kernel_rfl
theorem ar_hint (a : Value) : argsOk "reversed.__length_hint__" ⟨[a], []⟩ := by
  unfold argsOk; rw [signature?_of (id := "reversed.__length_hint__") (n := ['_', '_', 't', 'n', 'i', 'h', '_', 'h', 't', 'g', 'n', 'e', 'l', '_', '_']) (o := ['d', 'e', 's', 'r', 'e', 'v', 'e', 'r']) (by kernel_rfl) own_rv]; kernel_rfl
theorem no_rev : typeLookup (.type "tuple") "__reversed__" = pure none := by rw [typeLookup_type, builtinLookup_eq_fast]; kernel_rfl
theorem no_len : typeLookup (.type "reversed") "__len__" = pure none := by rw [typeLookup_type, builtinLookup_eq_fast]; kernel_rfl
theorem tup_dict : isSubtype (.type "tuple") (.type "dict") = pure false := by rw [isSubtype_type]; kernel_rfl
theorem rv_rv : isSubtype (.type "reversed") (.type "reversed") = pure true := by rw [isSubtype_type]; kernel_rfl
theorem rv_init : Slot "reversed" "__init__" "object.__init__" :=
  .of (owner := "object") (n := "__init__") (by rw [typeLookup_type, builtinLookup_eq_fast]; kernel_rfl) (by decide +kernel) (by decide +kernel) (by decide +kernel)
    (by first | exact .inl (by decide +kernel) | exact .inr (by decide +kernel)) (by rw [isSubtype_type]; kernel_rfl)
theorem rv_called : TypeCalled "reversed" "reversed.__new__" "object.__init__" :=
  ⟨by decide +kernel, by decide +kernel, ⟨_, _, F.mro_reversed⟩, F.made_reversed, by decide +kernel, rv_rv, rv_init⟩
end RV
set_option Elab.async false
set_option linter.all false
set_option maxRecDepth 100000
set_option maxHeartbeats 4000000
namespace RV
open PySem PySem.Spec PyProof.Rows
def revT (t : Addr) (i : Int) : Obj := { cls := .type "reversed", data := .fields #[.ref t, rawInt i] }
def IsRevT (h : Heap) (a t : Addr) (i : Int) : Prop := ∃ o, h.get? a = some o ∧ o.cls = .type "reversed" ∧ o.data = .fields #[.ref t, rawInt i]
theorem IsRevT.move {h h' : Heap} {a t : Addr} {i : Int} (x : IsRevT h a t i) (e : ∀ o, h.get? a = some o → h'.get? a = some o) : IsRevT h' a t i := by
  obtain ⟨o, ho, r⟩ := x
  exact ⟨o, e o ho, r⟩
section
variable {prog : Program} {w : World} {A : Around} {E : Value → Shared → Prop} {s : Shared}
theorem IsRevT.ty {a t : Addr} {i : Int} (x : IsRevT s.heap a t i) : s.TypeIs (.ref a) "reversed" := by
  obtain ⟨o, ho, hc, _⟩ := x
  exact ⟨o, ho, hc⟩
theorem IsTup.move {h h' : Heap} {t : Addr} {its : Array Value} (x : IsTup h t its) (e : ∀ o, h.get? t = some o → h'.get? t = some o) : IsTup h' t its := by
  obtain ⟨o, ho, r⟩ := x
  exact ⟨o, e o ho, r⟩
theorem made_new {t : Addr} {its : Array Value} {Q₁ : Value → Shared → Prop} (ht : IsTup s.heap t its) (hz : its.size ≤ sizeLine)
    (q : ∀ tk, Q₁ (.ref s.heap.objs.size) { s with heap := s.heap.push (revT t ((its.size : Int) - 1)), toks := tk }) :
    codeAny (model prog w) A (.call (.builtin "reversed.__new__") ⟨[.type "reversed", .ref t], []⟩) (wants Q₁ E) s := by
  refine codeAny_of_tree ?_
  show wpAny _ A.in1 (checkBuiltinCall "reversed.__new__" ⟨[.type "reversed", .ref t], []⟩ >>= fun _ => again (.builtin "reversed.__new__" ⟨[.type "reversed", .ref t], []⟩)) _ _ s
  refine wpAny_bind (wpAny_of_eq (F.newCall_reversed_1 _) (wpAny_pure ⟨plainId_quiet F.plain_reversed_new _, codeAny_builtin F.entry_reversed_new ?_⟩))
  rw [Around.under_plainId F.plain_reversed_new _]
  unfold Builtin.«reversed.__new__»
  refine wpAny_bind (wpAny_of_eq (newClass_reversed _) ?_)
  try dsimp only
  refine wpAny_bind (wpAny_of_eq (a := ()) (by first | rfl | kernel_rfl) ?_)
  refine wpAny_bind (wpAny_of_eq (a := ()) (by first | rfl | kernel_rfl) ?_)
  try dsimp only
  refine wpAny_bind (wpAny_specialOf ht.typeIs no_rev ?_)
  try dsimp only
  refine wpAny_bind (wpAny_bind (wpAny_isInstance ht.typeIs tup_dict ?_))
  rw [if_neg Bool.false_ne_true]
  refine wpAny_bind (wpAny_specialOf ht.typeIs slot_tuple_getitem.lookup ?_)
  show wpAny _ _ (if (["tuple.__getitem__", "str.__getitem__", "bytes.__getitem__", "bytearray.__getitem__", "memoryview.__getitem__", "numpy.ndarray.__getitem__", "sqlite3.Row.__getitem__"].contains "tuple.__getitem__") = true then pure true else _) _ _ s
  rw [if_pos (by decide +kernel)]
  refine wpAny_pure ?_
  rw [if_neg (by decide)]
  have hfit : (its.size : Int) < 2 ^ 63 := by have : sizeLine = 16777216 := sizeLine_eq; omega
  refine wpAny_bind (len_tuple ht hfit ?_)
  refine wpAny_bind (wpAny_of_eq (a := some (its.size : Int)) rfl ?_)
  show wpAny _ _ (newObj (Value.type "reversed") (.fields #[Value.ref t, rawInt ((its.size : Int) - 1)]) >>= _) _ _ _
  refine wpAny_bind (wpAny_newObj_type (wpAny_pure ?_))
  exact q _
theorem call_rev {t : Addr} {its : Array Value} {Q : Value → Shared → Prop} (ht : IsTup s.heap t its) (hz : its.size ≤ sizeLine)
    (q : ∀ tk, Q (.ref s.heap.objs.size) { s with heap := s.heap.push (revT t ((its.size : Int) - 1)), toks := tk }) : wpAny (model prog w) A (call (.type "reversed") [.ref t]) Q E s := by
  refine callType_codes (Q₁ := fun obj s₁ => s₁.TypeIs obj "reversed" ∧ Q obj s₁) rv_called (F.typeCall_reversed_1 _) F.entry_object_init (made_new ht hz fun tk => ⟨⟨_, Heap.get?_push_size _ rfl, rfl⟩, q tk⟩) fun obj s₁ h₁ => ?_
  exact ⟨h₁.1, F.args_object_init_2 obj _, object_init_meets rv_called.init.lookup rv_called.made (by decide) prog w A.in1 _ s₁ ⟨h₁.1, rfl, h₁.2⟩⟩
theorem next_item {it t : Addr} {i : Nat} {its : Array Value} {x : Value} {Q : Option Value → Shared → Prop} (hit : IsRevT s.heap it t (i : Int)) (ht : IsTup s.heap t its) (hx : its[i]? = some x) (hz : its.size ≤ sizeLine)
    (q : ∀ h' tk, IsRevT h' it t ((i : Int) - 1) → Heap.SameBut it s.heap h' → Q (some x) { s with heap := h', toks := tk }) : wpAny (model prog w) A (pyNext (.ref it)) Q E s := by
  obtain ⟨o, ho, hc, hd⟩ := id hit
  have hi : i < its.size := by
    obtain ⟨z, _⟩ := Array.getElem?_eq_some_iff.mp hx
    exact z
  have hsl : sizeLine = 16777216 := sizeLine_eq
  have hneg : ¬ ((i : Int) < 0) := by omega
  have hseq : seqIndex? (i : Int) its.size = some i := by simp [seqIndex?, hneg, hi]
  unfold pyNext
  refine wpAny_bind (wpAny_attempt (wpAny_callSpecial?_slot (name := Str.ofString "__next__") hit.ty rv_next (wpAny_call_entry rv_next hit.ty en_next ?_ (ar_next _))))
  unfold Builtin.«reversed.__next__»
  refine wpAny_bind (wpAny_of_eq (a := (Value.ref it, [])) rfl ?_)
  try dsimp only
  refine wpAny_bind (wpAny_field ho hd (x := .ref t) rfl ?_)
  refine wpAny_bind (wpAny_field ho hd (x := rawInt (i : Int)) rfl ?_)
  show wpAny _ _ (if (i : Int) < 0 then _ else _) _ _ s
  rw [if_neg (by omega)]
  refine wpAny_bind (wpAny_specialOf ht.typeIs slot_tuple_getitem.lookup ?_)
  rw [if_neg (by simp)]
  refine wpAny_bind (wpAny_mkInt ?_)
  refine wpAny_bind (wpAny_attempt (getItem_tuple (s := { s with toks := s.toks + 1 }) ht (by omega) (by omega) hseq hx ?_))
  show wpAny _ _ (field (Value.ref it) 1 >>= _) _ _ _
  refine wpAny_bind (wpAny_field (s := { s with toks := s.toks + 1 }) ho hd (x := rawInt (i : Int)) rfl ?_)
  show wpAny _ _ (setField (Value.ref it) 1 (rawInt ((i : Int) - 1)) >>= _) _ _ _
  refine wpAny_bind (wpAny_setField (s := { s with toks := s.toks + 1 }) ho hd (by simp) ?_)
  refine wpAny_pure ⟨x, rfl, wpAny_pure (q _ _ ?_ (Heap.SameBut.update ..))⟩
  exact ⟨_, Heap.get?_update_self _ ho (Obj.isFreed_of_fields (Obj.data_mapFields hd _)), (Obj.cls_mapFields ..).trans hc, by
    rw [Obj.data_mapFields hd]
    simp⟩
theorem next_end {it t : Addr} {Q : Option Value → Shared → Prop} (hh : A.handled = none) (hit : IsRevT s.heap it t (-1))
    (q : ∀ h' tk, Heap.ExtBut it s.heap h' → Q none { s with heap := h', toks := tk }) : wpAny (model prog w) A (pyNext (.ref it)) Q E s := by
  obtain ⟨o, ho, hc, hd⟩ := id hit
  unfold pyNext
  refine wpAny_bind (wpAny_attempt (wpAny_callSpecial?_slot (name := Str.ofString "__next__") hit.ty rv_next (wpAny_call_entry rv_next hit.ty en_next ?_ (ar_next _))))
  unfold Builtin.«reversed.__next__»
  refine wpAny_bind (wpAny_of_eq (a := (Value.ref it, [])) rfl ?_)
  try dsimp only
  refine wpAny_bind (wpAny_field ho hd (x := .ref t) rfl ?_)
  refine wpAny_bind (wpAny_field ho hd (x := rawInt (-1)) rfl ?_)
  show wpAny _ _ (if (-1 : Int) < 0 then _ else _) _ _ s
  rw [if_pos (by decide)]
  refine wpAny_bind (wpAny_rule ?_)
  refine wpAny_bind (wpAny_bind (wpAny_setField ho hd (by simp) ?_))
  have h1 := Heap.get?_update_self (Obj.mapFields (·.setIfInBounds 1 (rawInt (-1)))) ho (Obj.isFreed_of_fields (Obj.data_mapFields hd _))
  refine wpAny_setField h1 (Obj.data_mapFields hd _) (by simp) ?_
  refine wpAny_bind ?_
  show wpAny _ _ (newExc (Value.type "StopIteration") [] >>= _) _ _ _
  refine wpAny_bind ?_
  simp only [newTuple, newExc]
  refine wpAny_bind (wpAny_newObj_type (wpAny_bind (m := firstArgMember _ _) (wpAny_of_eq (a := Value.none) (by first | rfl | (simp only [firstArgMember]; rfl)) (wpAny_newObj_type ?_ (by size_fits)))) (by size_fits))
  simp only [raiseNew]
  refine wpAny_bind (wpAny_handled ?_)
  rw [show A.in1.handled = none from hh]
  refine wpAny_bind (wpAny_pure (wpAny_throw ?_))
  exact wpAny_bind (wpAny_isInstance (T := "StopIteration") (b := true) ⟨_, Heap.get?_push_size _ rfl, rfl⟩ isSubtype_stop (wpAny_pure (q _ _ ((((Heap.SameBut.update ..).trans (Heap.SameBut.update ..)).extBut.push _).push _))))
theorem iter_self {it t : Addr} {i : Int} {Q : Value → Shared → Prop} (hit : IsRevT s.heap it t i) (h : Q (.ref it) s) : wpAny (model prog w) A (pyIter (.ref it)) Q E s := by
  refine wpAny_pyIter_slot hit.ty rv_iter (wpAny_call_entry rv_iter hit.ty en_iter ?_ (ar_iter _))
  show wpAny _ _ (ret (.ref it)) _ _ s
  exact wpAny_pure ⟨_, rfl, "reversed", _, hit.ty, rv_next.lookup, h⟩
end
end RV
set_option Elab.async false
set_option linter.all false
set_option maxRecDepth 100000
set_option maxHeartbeats 4000000
namespace RV
open PySem PySem.Spec PyProof.Rows
section
variable {prog : Program} {w : World} {A : Around} {E : Value → Shared → Prop} {s : Shared}
theorem walks_rev (hh : A.handled = none) (I t : Addr) (hne : t ≠ I) (its : Array Value) (hz : its.size ≤ sizeLine) :
    Walks prog w A I [I, t] [I] its.size (fun i v => its[its.size - 1 - i]? = some v) (fun i h => i ≤ its.size ∧ IsRevT h I t ((its.size : Int) - 1 - (i : Int)) ∧ IsTup h t its) where
  sub := fun b hb => by
    have e : b = I := by simpa using hb
    simp [e]
  frame := fun _ _ _ st k => ⟨st.1, st.2.1.move fun o e => k I (by simp) o e, IsTup.move st.2.2 fun o e => k t (by simp) o e⟩
  item := fun i s Q E hi st q => by
    have e1 : (its.size : Int) - 1 - (i : Int) = ((its.size - 1 - i : Nat) : Int) := by omega
    have hit := st.2.1
    rw [e1] at hit
    have hx : its[its.size - 1 - i]? = some (its[its.size - 1 - i]'(by omega)) := Array.getElem?_eq_getElem (by omega)
    refine next_item hit st.2.2 hx hz fun h' tk hit' same => ?_
    have e2 : ((its.size - 1 - i : Nat) : Int) - 1 = (its.size : Int) - 1 - ((i + 1 : Nat) : Int) := by omega
    rw [e2] at hit'
    exact q _ h' tk hx ⟨hi, hit', IsTup.move st.2.2 fun o eo => (same.2 t hne).trans eo⟩ fun b o hb eo => same.extBut b o (fun z => hb (by simp [z])) eo
  done := fun s Q E st q => by
    have e1 : (its.size : Int) - 1 - (its.size : Int) = -1 := by omega
    have hit := st.2.1
    rw [e1] at hit
    exact next_end hh hit fun h' tk he => q h' tk fun b o hb eo => he b o (fun z => hb (by simp [z])) eo
  self := fun _ _ _ _ st q => iter_self st.2.1 q
theorem hint_rev {I t : Addr} {its : Array Value} {Q : Bool → Shared → Prop} (hI : IsRevT s.heap I t ((its.size : Int) - 1)) (ht : IsTup s.heap t its) (hz : its.size ≤ sizeLine) (q : ∀ b tk, Q b { s with toks := tk }) : wpAny (model prog w) A (Builtin.List.listLengthHint (.ref I)) Q E s := by
  unfold Builtin.List.listLengthHint
  refine wpAny_bind (wpAny_specialOf hI.ty no_len ?_)
  try dsimp only
  refine wpAny_ite_split (fun h => absurd h (by decide)) (fun _ => ?_)
  refine wpAny_ite_split (fun h => absurd h (by decide)) (fun _ => ?_)
  refine wpAny_bind (wpAny_specialOf hI.ty rv_hint.lookup ?_)
  generalize hid : ("reversed.__length_hint__" : String) = id0
  wp_delta
  rw [show splitId id0 = some ("reversed", "__length_hint__") from by subst hid; decide +kernel]
  subst hid
  refine wpAny_bind (wpAny_isInstance (T := "reversed") (b := true) hI.ty rv_rv ?_)
  refine wpAny_ite_split (fun h => absurd h (by decide)) (fun _ => ?_)
  refine wpAny_ite_split (fun h => absurd h (by decide +kernel)) (fun _ => ?_)
  refine wpAny_bind (wpAny_rule ?_)
  refine wpAny_bind (wpAny_of_eq (rv_hint.bind _) ?_)
  have hsl : sizeLine = 16777216 := sizeLine_eq
  have hfit : (its.size : Int) < 2 ^ 63 := by omega
  obtain ⟨o, ho, hc, hd⟩ := id hI
  refine wpAny_bind (wpAny_attempt (wpAny_call_entry rv_hint hI.ty en_hint ?_ (ar_hint _)))
  unfold Builtin.«reversed.__length_hint__»
  refine wpAny_bind (wpAny_of_eq (a := Value.ref I) rfl ?_)
  refine wpAny_bind (wpAny_field ho hd (x := .ref t) rfl ?_)
  rw [if_neg (by exact Bool.false_ne_true)]
  refine wpAny_bind (len_tuple ht hfit ?_)
  refine wpAny_bind (wpAny_of_eq (a := some (its.size : Int)) rfl ?_)
  try dsimp only
  refine wpAny_bind (wpAny_field (s := { s with toks := s.toks + 1 + 1 }) ho hd (x := rawInt ((its.size : Int) - 1)) rfl ?_)
  show wpAny _ _ (if (its.size : Int) < (its.size : Int) - 1 + 1 then _ else _) _ _ _
  rw [if_neg (by omega)]
  refine wpAny_bind (wpAny_mkInt (wpAny_pure ⟨_, rfl, ?_⟩))
  refine wpAny_bind (wpAny_of_eq (a := some ((its.size : Int) - 1 + 1)) rfl ?_)
  try dsimp only
  refine wpAny_ite_split (fun h => absurd h ?_) (fun _ => ?_)
  · unfold Builtin.List.listFitsIndex
    simp
    omega
  refine wpAny_ite_split (fun h => absurd h (by omega)) (fun _ => ?_)
  refine wpAny_ite_split (fun h => absurd h ?_) (fun _ => ?_)
  · unfold Builtin.List.listTooLong
    simp
    omega
  exact wpAny_pure (q _ _)
end
end RV
set_option Elab.async false
set_option linter.all false
set_option maxRecDepth 100000
set_option maxHeartbeats 4000000
namespace RV
open PySem PySem.Spec PyProof.Rows
section
variable {prog : Program} {w : World} {A : Around} {E : Value → Shared → Prop} {s : Shared}
def StR (I t : Addr) (its : Array Value) (i : Nat) (h : Heap) : Prop := i ≤ its.size ∧ IsRevT h I t ((its.size : Int) - 1 - (i : Int)) ∧ IsTup h t its
def PR (its : Array Value) (i : Nat) (v : Value) : Prop := its[its.size - 1 - i]? = some v
theorem StR.move {I t : Addr} {its : Array Value} {i : Nat} {h h' : Heap} (x : StR I t its i h) (k : ∀ b o, b = I ∨ b = t → h.get? b = some o → h'.get? b = some o) : StR I t its i h' :=
  ⟨x.1, x.2.1.move fun o e => k I o (.inl rfl) e, IsTup.move x.2.2 fun o e => k t o (.inr rfl) e⟩
theorem extend_rev {R : Result → Shared → Prop} (hh : A.handled = none) {I t S : Addr} {its : Array Value} {res : Value} {c₀ : Nat} (hne : t ≠ I) (hSI : S ≠ I) (hSt : S ≠ t) (hz : its.size ≤ sizeLine) (st : StR I t its 0 s.heap)
    (hS : s.heap.get? S = some { cls := .type "list", data := .seq #[] c₀ })
    (q : ∀ h' tk acc c, (∀ b o, b ≠ S → b ≠ I → s.heap.get? b = some o → h'.get? b = some o) → h'.get? S = some { cls := .type "list", dict := none, data := .seq acc c, slots := #[] } → ItemsOf (PR its) acc its.size → R (.ok (.ret res)) { s with heap := h', toks := tk }) :
    wpAny (model prog w) A.in1 (Builtin.List.listExtendWith (.ref S) (.ref I) res)
      (fun fin s' => match fin with | .done f => R (.ok f) s' | .again c' => c'.quiet = true ∧ codeAny (model prog w) A c' R s') (fun e s' => R (.error e) s') s := by
  have W := (walks_rev (prog := prog) (w := w) (A := A.in1) hh I t hne its hz).toS
  have hSf : S ∉ [I, t] := by simp [hSI, hSt]
  have ty : s.TypeIs (.ref I) "reversed" := st.2.1.ty
  have rest : ∀ (h : Heap) (c tk : Nat), StR I t its 0 h → (∀ b o, b ≠ S → s.heap.get? b = some o → h.get? b = some o) → h.get? S = some { cls := .type "list", data := .seq #[] c } → codeAny (model prog w) A (.builtin "list.extend.loop" ⟨[.ref S, .ref I, res], []⟩) R { s with heap := h, toks := tk } := fun h c tk st' keep hS' => by
    refine codeAny_extend_loopS W hz S hSf res its.size 0 _ #[] c rfl (Nat.zero_le _) st' hS' (ItemsOf.nil _) fun s' acc c' hm hS2 hacc => ?_
    rw [Moved.eq_with hm]
    refine q s'.heap s'.toks acc c' (fun b o hb hbI e => hm.heap b o (fun z => ?_) (keep b o hb e)) hS2 hacc
    rcases List.mem_cons.mp z with z | z
    · exact hb z
    · exact hbI (List.mem_singleton.mp z)
  unfold Builtin.List.listExtendWith
  refine wpAny_bind (wpAny_typeOf ty ?_)
  have n1 : Builtin.List.listSameRef (.ref S) (.ref I) = false := by simp [Builtin.List.listSameRef, hSI]
  have n2 : (Value.type "reversed" == Value.type "list") = false := by decide
  have n3 : (Value.type "reversed" == Value.type "tuple") = false := by decide
  simp only [n1, n2, n3, Bool.or_false, Bool.false_eq_true, if_false]
  refine wpAny_bind (iter_self st.2.1 ?_)
  refine wpAny_bind (wpAny_holding (hint_rev (its := its) (by have := st.2.1; simpa using this) st.2.2 hz fun b tk => ?_))
  refine wpAny_ite_split (fun _ => ?_) (fun _ => wpAny_pure ⟨plainId_quiet PySem.F.plain_extend_loop _, rest _ c₀ _ st (fun b o _ e => e) hS⟩)
  refine wpAny_bind (wpAny_rule (wpAny_bind ?_))
  show wpAny _ _ (updateSeq S (·.push .none) >>= fun _ => updateSeq S (·.pop)) _ _ _
  refine wpAny_bind (wpAny_updateSeq (s := { s with toks := tk }) hS rfl ?_)
  have hS2 := Heap.get?_update_self (Obj.mapSeq (·.push Value.none)) hS rfl
  refine wpAny_updateSeq (hz := by seq_fits) hS2 rfl ?_
  have hS3 := Heap.get?_update_self (Obj.mapSeq (·.pop)) hS2 rfl
  have oth : ∀ b o, b ≠ S → s.heap.get? b = some o → ((s.heap.update S (Obj.mapSeq (·.push Value.none))).update S (Obj.mapSeq (·.pop))).get? b = some o := fun b o hb e =>
    (Heap.get?_update_other _ _ (Ne.symm hb)).trans ((Heap.get?_update_other _ _ (Ne.symm hb)).trans e)
  refine wpAny_pure ⟨plainId_quiet PySem.F.plain_extend_loop _, rest _ _ _ (st.move fun b o hb e => oth b o (fun z => ?_) e) oth hS3⟩
  rcases hb with y | y
  · exact hSI (z.symm.trans y)
  · exact hSt (z.symm.trans y)
theorem init_rev {R : Result → Shared → Prop} (hh : A.handled = none) {I t S : Addr} {its : Array Value} (hne : t ≠ I) (hSI : S ≠ I) (hSt : S ≠ t) (hz : its.size ≤ sizeLine) (st : StR I t its 0 s.heap)
    (hS : s.heap.get? S = some { cls := .type "list", data := .seq #[] })
    (q : ∀ h' tk acc c, (∀ b o, b ≠ S → b ≠ I → s.heap.get? b = some o → h'.get? b = some o) → h'.get? S = some { cls := .type "list", dict := none, data := .seq acc c, slots := #[] } → ItemsOf (PR its) acc its.size → R (.ok (.ret .none)) { s with heap := h', toks := tk }) :
    wpAny (model prog w) A.in1 (Builtin.«list.__init__» ⟨[.ref S, .ref I], []⟩)
      (fun fin s' => match fin with | .done f => R (.ok f) s' | .again c' => c'.quiet = true ∧ codeAny (model prog w) A c' R s') (fun e s' => R (.error e) s') s := by
  show wpAny _ A.in1 (Builtin.List.listItems (.ref S) >>= fun old => Builtin.List.listUpdate (.ref S) (fun _ => #[]) >>= fun _ => letGo old.toList.reverse >>= fun _ => Builtin.List.listExtendWith (.ref S) (.ref I) .none) _ _ s
  unfold Builtin.List.listItems
  refine wpAny_bind (wpAny_bind (wpAny_seqItems hS rfl (wpAny_pure ?_)))
  show wpAny _ A.in1 (updateSeq S (fun _ => #[]) >>= fun _ => letGo (#[] : Array Value).toList.reverse >>= fun _ => Builtin.List.listExtendWith (.ref S) (.ref I) .none) _ _ s
  refine wpAny_bind (wpAny_updateSeq hS rfl (wpAny_bind (wpAny_letGo ?_)))
  have oth : ∀ b o, b ≠ S → s.heap.get? b = some o → (s.heap.update S (Obj.mapSeq (fun _ => (#[] : Array Value)))).get? b = some o := fun b o hb e => (Heap.get?_update_other _ _ (Ne.symm hb)).trans e
  refine extend_rev hh hne hSI hSt hz (st.move fun b o hb e => oth b o (fun z => ?_) e) (Heap.get?_update_self (Obj.mapSeq (fun _ => (#[] : Array Value))) hS rfl) fun h' tk acc c keep hS' hacc => q h' tk acc c (fun b o hb hbI e => keep b o hb hbI (oth b o hb e)) hS' hacc
  rcases hb with y | y
  · exact hSI (z.symm.trans y)
  · exact hSt (z.symm.trans y)
theorem list_rev {I t : Addr} {its : Array Value} {Q : Value → Shared → Prop} (hh : A.handled = none) (hne : t ≠ I) (hz : its.size ≤ sizeLine) (st : StR I t its 0 s.heap)
    (q : ∀ h' tk acc c, (∀ b o, b ≠ I → s.heap.get? b = some o → h'.get? b = some o) → h'.get? s.heap.objs.size = some { cls := .type "list", dict := none, data := .seq acc c, slots := #[] } → ItemsOf (PR its) acc its.size → Q (.ref s.heap.objs.size) { s with heap := h', toks := tk }) :
    wpAny (model prog w) A (call (.type "list") [.ref I]) Q E s := by
  have hI : I < s.heap.objs.size := by
    obtain ⟨o, e, _⟩ := st.2.1
    exact Heap.lt_size e
  have ht : t < s.heap.objs.size := by
    obtain ⟨o, e, _⟩ := st.2.2
    exact Heap.lt_size e
  refine callType_codes (Q₁ := fun obj s₁ => obj = .ref s.heap.objs.size ∧ s₁ = { s with heap := s.heap.push { cls := .type "list", data := .seq #[] } }) F.called_list (F.typeCall_list_1 _) F.entry_list_init (code_list_new _ ⟨rfl, rfl⟩) fun obj s₁ e₁ => ?_
  obtain ⟨rfl, rfl⟩ := e₁
  have hS : (s.heap.push { cls := .type "list", data := .seq #[] }).get? s.heap.objs.size = some { cls := .type "list", data := .seq #[] } := Heap.get?_push_size _ rfl
  refine ⟨⟨_, hS, rfl⟩, F.args_list_init_2 _ _, init_rev (A := A.in1) hh hne (Nat.ne_of_gt hI) (Nat.ne_of_gt ht) hz (st.move fun b o _ e => Heap.get?_push_of_some _ e) hS fun h' tk acc c keep hS' hacc => ?_⟩
  exact ⟨rfl, q h' tk acc c (fun b o hb e => keep b o (Nat.ne_of_lt (Heap.lt_size e)) hb (Heap.get?_push_of_some _ e)) hS' hacc⟩
end
end RV
set_option Elab.async false
set_option linter.all false
set_option maxRecDepth 100000
set_option maxHeartbeats 4000000
namespace L2
open PySem PySem.Spec PyProof.Rows PySem.W RV
theorem vals_at : ∀ {xs : List V} {its : List Value} {i : Nat} {v : Value}, Vals xs its → its[i]? = some v → ∃ x, xs[i]? = some x ∧ RelV x v
  | _, _, _, _, .nil, e => by simp at e
  | _, _, 0, _, .cons r _, e => by simp at e; subst e; exact ⟨_, rfl, r⟩
  | _, _, i + 1, _, .cons _ t, e => by
    obtain ⟨x, h1, h2⟩ := vals_at (i := i) t (by simpa using e)
    exact ⟨x, by simpa using h1, h2⟩
theorem vals_by : ∀ {xs : List V} {us : List Value}, us.length = xs.length → (∀ (j : Nat) (u : Value), us[j]? = some u → ∃ x, xs[j]? = some x ∧ RelV x u) → Vals xs us
  | [], [], _, _ => .nil
  | [], _ :: _, h, _ => by simp at h
  | _ :: _, [], h, _ => by simp at h
  | x :: xs, u :: us, h, k => by
    obtain ⟨y, e, r⟩ := k 0 u rfl
    have e' : x = y := by simpa using e
    subst e'
    exact .cons r (vals_by (by simpa using h) fun j v hj => by simpa using k (j + 1) v (by simpa using hj))
theorem vals_rev {xs : List V} {its : Array Value} {acc : Array Value} (hv : Vals xs its.toList) (ha : ItemsOf (PR its) acc its.size) : Vals xs.reverse acc.toList := by
  have hl : xs.length = its.size := by rw [hv.length, Array.length_toList]
  refine vals_by (by rw [Array.length_toList, ha.1, List.length_reverse, hl]) fun j u e => ?_
  have hj : j < its.size := by
    rw [← ha.1, ← Array.length_toList]
    exact (List.getElem?_eq_some_iff.mp e).1
  have hp : its[its.size - 1 - j]? = some u := ha.2 j u (by rw [← Array.getElem?_toList]; exact e)
  obtain ⟨x, h1, h2⟩ := vals_at (i := its.size - 1 - j) hv (by rw [Array.getElem?_toList]; exact hp)
  refine ⟨x, ?_, h2⟩
  rw [List.getElem?_reverse (by omega), hl]
  exact h1
section
variable {X : Cx} {e : Expr} {te : TE} {pos pos2 p p2 : Pos}
def tLRev (K : PySem.W.Frag) (te : TE) : TE := fun σ H Q => te σ H fun x H1 => ∃ a xs, x = .ref a ∧ SqT K H1 a xs ∧ ∀ l, H1 l = none → Q (.ref l) (upd H1 l (.lst xs.reverse))
theorem ev_rev (he : PE X e te) (gR : Gl X "reversed") (mR : X.mg "reversed" = none) (hs : starEach [e] X.env = [(false, eval e X.env)] := by rfl)
    {pins : List (Addr × Obj)} {s : Shared} {σ : St} {H : Hp} {R : VK} {Q : Value → Shared → Prop} (I : Inv X pins σ H s) (h : te σ H R)
    (k : ∀ x H1 s1 a xs its tk, Inv X pins σ H1 s1 → R x H1 → x = .ref a → Vals xs its → IsTup s1.heap a its.toArray → its.toArray.size ≤ sizeLine → SqT X.K H1 a xs → Q (.ref s1.heap.objs.size) { s1 with heap := s1.heap.push (revT a ((its.toArray.size : Int) - 1)), toks := tk })
    (kr : ∀ x H1, R x H1 → ∃ a xs, x = .ref a ∧ SqT X.K H1 a xs) :
    wpAny (model X.prog X.w) X.A (eval (.Call (.Name "reversed" p2) [e] [] pos2) X.env) Q X.xe s := by
  refine wpAny_Call_Name_kw (ld_blt I gR mR boot_reversed ?_ (by decide) (by decide))
  refine PyProof.Rows.callWith_type1 ?_ hs (by rfl)
  rw [hs]
  refine Calls.spliced_cons (thn (he pins s σ H _ I h) fun u s1 ⟨x, H1, I1, r1, q1⟩ => ?_)
  obtain ⟨a, xs, rfl, ht⟩ := kr x H1 q1
  cases r1
  obtain ⟨its, hv, htup, hz⟩ := I1.tuple ht
  have hz' : its.toArray.size ≤ sizeLine := by have := hv.length; simp; omega
  refine Calls.spliced_nil ?_
  exact call_rev htup hz' fun tk => k _ H1 s1 a xs its tk I1 q1 rfl hv htup hz' ht
theorem pe_lrev (hc : X.calm = true) (he : PE X e te) (gL : Gl X "list") (mL : X.mg "list" = none) (gR : Gl X "reversed") (mR : X.mg "reversed" = none) (hs : starEach [e] X.env = [(false, eval e X.env)] := by rfl) (hs2 : starEach [.Call (.Name "reversed" p2) [e] [] pos2] X.env = [(false, eval (.Call (.Name "reversed" p2) [e] [] pos2) X.env)] := by rfl) :
    PE X (.Call (.Name "list" p) [.Call (.Name "reversed" p2) [e] [] pos2] [] pos) (tLRev X.K te) := by
  intro pins s σ H Q I h
  refine wpAny_Call_Name_kw (ld_blt I gL mL boot_list ?_ (by decide) (by decide))
  refine PyProof.Rows.callWith_type1 ?_ hs2 (by rfl)
  rw [hs2]
  refine Calls.spliced_cons (ev_rev he gR mR hs I h (fun x H1 s1 a xs its tk I1 q1 ex hv htup hz ht => ?_) fun x H1 q => by obtain ⟨a, xs, e1, e2, _⟩ := q; exact ⟨a, xs, e1, e2⟩)
  obtain ⟨a', ys, e1, e2, q⟩ := q1
  have ea : a = a' := V.ref.inj (ex.symm.trans e1)
  subst ea
  have exy := I1.tuple_inj ht e2
  subst exy
  refine Calls.spliced_nil ?_
  have hne : a ≠ s1.heap.objs.size := Nat.ne_of_lt htup.lt
  have st : StR s1.heap.objs.size a its.toArray 0 (s1.heap.push (revT a ((its.toArray.size : Int) - 1))) := ⟨Nat.zero_le _, ⟨_, Heap.get?_push_size _ rfl, rfl, by simp [revT]⟩, htup.push _⟩
  refine list_rev (s := { s1 with heap := s1.heap.push (revT a ((its.toArray.size : Int) - 1)), toks := tk }) (I1.ok.hd hc) hne hz st fun h' tk' acc c keep hS hacc => ?_
  have hk : ∀ b u, s1.heap.get? b = some u → h'.get? b = some u := fun b u e => keep b u (Nat.ne_of_lt (Heap.lt_size e)) (Heap.get?_push_of_some _ e)
  have hv' : Vals xs its.toArray.toList := by simpa using hv
  have hr := vals_rev hv' hacc
  have hp : s1.heap.objs.size ≤ (s1.heap.push (revT a ((its.toArray.size : Int) - 1))).objs.size := by rw [Heap.size_push]; omega
  refine ⟨.ref _, _, I1.laid (t' := tk') hk hp (show ObjOk X.prog X.w _ h' _ (.lst xs.reverse) from ⟨?_, acc.toList, c, hr, by simpa using hS⟩), rfl, q _ (I1.hok.fresh hp)⟩
  rw [hr.length, Array.length_toList, hacc.1]
  exact hz
end
end L2
set_option Elab.async false
set_option linter.all false
set_option maxRecDepth 100000
set_option maxHeartbeats 4000000
namespace L2
open PySem PySem.Spec PyProof.Rows
structure Stp (P : Program) (w : World) (it src : Addr) (xs : Array Value) (I : Nat → Heap → Prop) (S : Heap → Prop) : Prop where
  item : ∀ {A : Around} {E : Value → Shared → Prop} {s : Shared} {Q : Value → Shared → Prop} {k : Nat} {x : Value}, I k s.heap → S s.heap → xs[k]? = some x → (∀ h', I (k + 1) h' → Heap.SameBut it s.heap h' → Q x { s with heap := h' }) → wpAny (model P w) A (Builtin.SmallTypes.nextOf (.ref it)) Q E s
  stop : ∀ {A : Around} {E : Value → Shared → Prop} {s : Shared} {Q : Value → Shared → Prop} {k : Nat}, A.handled = none → I k s.heap → S s.heap → xs[k]? = none → (∀ h' e, Heap.ExtBut it s.heap h' → (∃ o, h'.get? e = some o ∧ o.cls = .type "StopIteration") → E (.ref e) { s with heap := h' }) → wpAny (model P w) A (Builtin.SmallTypes.nextOf (.ref it)) Q E s
  moveI : ∀ {k : Nat} {h h' : Heap}, I k h → (∀ o, h.get? it = some o → h'.get? it = some o) → I k h'
  moveS : ∀ {h h' : Heap}, S h → (∀ o, h.get? src = some o → h'.get? src = some o) → S h'
  lt : ∀ {k : Nat} {h : Heap}, I k h → it < h.objs.size
theorem stp_list {P : Program} {w : World} (it l : Addr) (xs : Array Value) : Stp P w it l xs (fun k h => h.IsListIter it l k) (fun h => h.IsList l xs) where
  item := fun hi hs hx q => wpAny_nextOf_list_item hi hs hx q
  stop := fun hh hi hs hx q => wpAny_nextOf_list_end hh hi hs hx q
  moveI := fun hi e => hi.at e
  moveS := fun hs e => hs.at e
  lt := fun ⟨_, e, _⟩ => Heap.lt_size e
theorem tupIter_item {P : Program} {w : World} {A : Around} {E : Value → Shared → Prop} {s : Shared} {it t : Addr} {k : Nat} {xs : Array Value} {v : Value} {Q : Value → Shared → Prop} (hi : s.heap.IsTupleIter it t k) (hs : s.heap.IsTuple t xs) (hv : xs[k]? = some v)
    (q : ∀ h', h'.IsTupleIter it t (k + 1) → Heap.SameBut it s.heap h' → Q v { s with heap := h' }) : wpAny (model P w) A (Builtin.SmallTypes.nextOf (.ref it)) Q E s := by
  obtain ⟨ob, eb, cb, db⟩ := id hi
  obtain ⟨os, es, _, ns, ds⟩ := hs
  unfold Builtin.SmallTypes.nextOf
  refine wpAny_bind (wpAny_callSpecial?_slot (name := Str.ofString "__next__") hi.typeIs F.slot_tuple_iterator_next (wpAny_call_entry F.slot_tuple_iterator_next hi.typeIs F.entry_tuple_iterator_next ?_ (F.args_tuple_iterator_next_1 _)))
  show wpAny _ _ (field (Value.ref it) 0 >>= _) _ _ s
  refine wpAny_bind (wpAny_field eb db (x := Value.ref t) rfl ?_)
  show wpAny _ _ (ite ((Value.ref t == Value.none) = true) _ _) _ _ s
  rw [if_neg (by exact Bool.false_ne_true)]
  show wpAny _ _ (field (Value.ref it) 1 >>= _) _ _ s
  refine wpAny_bind (wpAny_field eb db (x := Value.int k 0) rfl ?_)
  show wpAny _ _ (seqItems? (Value.ref t) >>= _) _ _ s
  refine wpAny_bind (wpAny_seqItems es ds ?_)
  simp only [hv, Int.toNat_natCast]
  refine wpAny_bind (wpAny_setField eb db (by simp) (wpAny_pure ⟨v, rfl, wpAny_pure (q _ ⟨_, Heap.get?_update_self _ eb (Obj.isFreed_of_fields (Obj.data_mapFields db _)), (Obj.cls_mapFields ..).trans cb, ?_⟩ (Heap.SameBut.update ..))⟩))
  rw [Obj.data_mapFields db]
  simp [rawInt]
theorem tupIter_stop {P : Program} {w : World} {A : Around} {E : Value → Shared → Prop} {s : Shared} {it t : Addr} {k : Nat} {xs : Array Value} {Q : Value → Shared → Prop} (hA : A.handled = none) (hi : s.heap.IsTupleIter it t k) (hs : s.heap.IsTuple t xs) (hv : xs[k]? = none)
    (q : ∀ h' e, Heap.ExtBut it s.heap h' → (∃ o, h'.get? e = some o ∧ o.cls = .type "StopIteration") → E (.ref e) { s with heap := h' }) : wpAny (model P w) A (Builtin.SmallTypes.nextOf (.ref it)) Q E s := by
  obtain ⟨ob, eb, cb, db⟩ := id hi
  obtain ⟨os, es, _, ns, ds⟩ := hs
  unfold Builtin.SmallTypes.nextOf
  refine wpAny_bind (wpAny_callSpecial?_slot (name := Str.ofString "__next__") hi.typeIs F.slot_tuple_iterator_next (wpAny_call_entry F.slot_tuple_iterator_next hi.typeIs F.entry_tuple_iterator_next ?_ (F.args_tuple_iterator_next_1 _)))
  show wpAny _ _ (field (Value.ref it) 0 >>= _) _ _ s
  refine wpAny_bind (wpAny_field eb db (x := Value.ref t) rfl ?_)
  show wpAny _ _ (ite ((Value.ref t == Value.none) = true) _ _) _ _ s
  rw [if_neg (by exact Bool.false_ne_true)]
  show wpAny _ _ (field (Value.ref it) 1 >>= _) _ _ s
  refine wpAny_bind (wpAny_field eb db (x := Value.int k 0) rfl ?_)
  show wpAny _ _ (seqItems? (Value.ref t) >>= _) _ _ s
  refine wpAny_bind (wpAny_seqItems es ds ?_)
  simp only [hv, Int.toNat_natCast]
  refine wpAny_bind (wpAny_rule (wpAny_bind (wpAny_setField eb db (by simp) ?_)))
  show wpAny _ _ (newExc (Value.type "StopIteration") [] >>= _) _ _ _
  refine wpAny_bind ?_
  simp only [newTuple, newExc]
  refine wpAny_bind (wpAny_newObj_type (wpAny_bind (m := firstArgMember _ _) (wpAny_of_eq (a := Value.none) (by first | rfl | (simp only [firstArgMember]; rfl)) (wpAny_newObj_type ?_ (by size_fits)))) (by size_fits))
  simp only [raiseNew]
  refine wpAny_bind (wpAny_handled ?_)
  first | rw [show A.in1.handled = none from hA] | rw [hA]
  exact wpAny_bind (wpAny_pure (wpAny_throw (q _ _ (((Heap.SameBut.update ..).extBut.push _).push _) ⟨_, Heap.get?_push_size _ rfl, rfl⟩)))
theorem stp_tup {P : Program} {w : World} (it t : Addr) (xs : Array Value) : Stp P w it t xs (fun k h => h.IsTupleIter it t k) (fun h => h.IsTuple t xs) where
  item := fun hi hs hx q => tupIter_item hi hs hx q
  stop := fun hh hi hs hx q => tupIter_stop hh hi hs hx q
  moveI := fun hi e => hi.at e
  moveS := fun hs e => hs.at e
  lt := fun ⟨_, e, _⟩ => Heap.lt_size e
section
variable {P : Program} {w : World} {A : Around} {E : Value → Shared → Prop} {s : Shared} {z TI TO i1 i2 l1 l2 : Addr} {xs ys : Array Value} {I1 I2 : Nat → Heap → Prop} {S1 S2 : Heap → Prop}
theorem zipG_item {j k : Nat} {x y a b : Value} {Q : Value → Shared → Prop} (D : ZipApart z TI TO i1 i2 l1 l2) (F1 : Stp P w i1 l1 xs I1 S1) (F2 : Stp P w i2 l2 ys I2 S2)
    (hz : IsZip s.heap z TI TO .none) (hi : IsPair s.heap TI (.ref i1) (.ref i2)) (ho : IsPair s.heap TO a b) (a1 : I1 j s.heap) (a2 : I2 k s.heap) (g1 : S1 s.heap) (g2 : S2 s.heap) (ex : xs[j]? = some x) (ey : ys[k]? = some y)
    (q : ∀ h', IsZip h' z TI TO (rawInt s.heap.objs.size) → IsPair h' TO x y → I1 (j + 1) h' → I2 (k + 1) h' → IsPair h' s.heap.objs.size x y → (∀ c o, c ≠ z → c ≠ TO → c ≠ i1 → c ≠ i2 → s.heap.get? c = some o → h'.get? c = some o) → Q (.ref s.heap.objs.size) { s with heap := h' }) :
    wpAny (model P w) A (Builtin.«zip.__next__» ⟨[.ref z], []⟩) (fun fin s' => ∃ v, fin = .done (.ret v) ∧ Q v s') E s := by
  show wpAny _ _ (field (Value.ref z) 2 >>= _) _ _ _
  refine wpAny_bind (wpAny_field hz rfl (x := Value.bool false) rfl ?_)
  show wpAny _ _ (field (Value.ref z) 3 >>= _) _ _ _
  refine wpAny_bind (wpAny_field hz rfl (x := Value.ref TI) rfl (wpAny_bind (wpAny_seqItems hi rfl ?_)))
  show wpAny _ _ (Builtin.SmallTypes.ownedTupleIsFree (Value.ref z) >>= _) _ _ _
  unfold Builtin.SmallTypes.ownedTupleIsFree
  refine wpAny_bind (wpAny_bind (wpAny_field hz rfl (x := Value.none) rfl (wpAny_pure ?_)))
  simp only [if_true]
  refine wpAny_bind (wpAny_rule (wpAny_bind (wpAny_field hz rfl (x := Value.ref TO) rfl (wpAny_bind (wpAny_setField_rec hz (by simp) fun u1 y1 e1 => ?_)))))
  replace y1 : IsZip u1 z TI TO .ellipsis := y1
  refine wpAny_bind ?_
  simp only [List.forIn_cons, List.forIn_nil, List.zipIdx_cons, List.zipIdx_nil]
  refine wpAny_bind (wpAny_bind (wpAny_onRaise ?_))
  show wpAny _ _ (Builtin.SmallTypes.nextOf (Value.ref i1) >>= _) _ _ _
  refine wpAny_bind (F1.item (F1.moveI a1 fun o e => e1.extBut _ _ D.i1z e) (F1.moveS g1 fun o e => e1.extBut _ _ D.l1z e) ex fun u2 b1 e2 => wpAny_pure ?_)
  have o2 : IsPair u2 TO a b := e2.extBut _ _ D.TOi1 (e1.extBut _ _ D.TOz ho)
  refine wpAny_bind (wpAny_seqItems o2 rfl (wpAny_bind (wpAny_updateSeq_pair o2 fun u3 o3 e3 => wpAny_bind (wpAny_letGo (wpAny_pure ?_)))))
  replace o3 : IsPair u3 TO x b := o3
  refine wpAny_bind (wpAny_bind (wpAny_onRaise ?_))
  show wpAny _ _ (Builtin.SmallTypes.nextOf (Value.ref i2) >>= _) _ _ _
  refine wpAny_bind (F2.item (F2.moveI a2 fun o e => e3.extBut _ _ D.TOi2.symm (e2.extBut _ _ D.i12.symm (e1.extBut _ _ D.i2z e))) (F2.moveS g2 fun o e => e3.extBut _ _ D.l2TO (e2.extBut _ _ D.l2i1 (e1.extBut _ _ D.l2z e))) ey fun u4 b2 e4 => wpAny_pure ?_)
  have o4 : IsPair u4 TO x b := e4.extBut _ _ D.TOi2 o3
  refine wpAny_bind (wpAny_seqItems o4 rfl (wpAny_bind (wpAny_updateSeq_pair o4 fun u5 o5 e5 => wpAny_bind (wpAny_letGo (wpAny_pure (wpAny_pure ?_))))))
  replace o5 : IsPair u5 TO x y := o5
  refine wpAny_bind (wpAny_seqItems o5 rfl (wpAny_bind (wpAny_newTuple ?_)))
  have n5 : u5.objs.size = s.heap.objs.size := by rw [e5.1, e4.1, e3.1, e2.1, e1.1]
  have y5 : IsZip u5 z TI TO .ellipsis := e5.extBut _ _ D.TOz.symm (e4.extBut _ _ D.i2z.symm (e3.extBut _ _ D.TOz.symm (e2.extBut _ _ D.i1z.symm y1)))
  have k5 : ∀ c o, c ≠ z → c ≠ TO → c ≠ i1 → c ≠ i2 → s.heap.get? c = some o → u5.get? c = some o := fun c o d1 d2 d3 d4 e => e5.extBut _ _ d2 (e4.extBut _ _ d4 (e3.extBut _ _ d2 (e2.extBut _ _ d3 (e1.extBut _ _ d1 e))))
  have j5 : I1 (j + 1) u5 := F1.moveI b1 fun o e => e5.extBut _ _ D.TOi1.symm (e4.extBut _ _ D.i12 (e3.extBut _ _ D.TOi1.symm e))
  have m5 : I2 (k + 1) u5 := F2.moveI b2 fun o e => e5.extBut _ _ D.TOi2.symm e
  have zlt : z < u5.objs.size := Heap.lt_size y5
  show wpAny _ _ (Builtin.SmallTypes.ownedTupleHandOut (Value.ref z) (Value.ref u5.objs.size) >>= _) _ _ _
  unfold Builtin.SmallTypes.ownedTupleHandOut
  have y6 : IsZip (u5.push { cls := .type "tuple", data := .seq #[x, y] }) z TI TO .ellipsis := Heap.get?_push_of_some _ y5
  refine wpAny_bind (wpAny_bind (wpAny_setField_rec y6 (by simp) fun u7 y7 e7 => ?_))
  replace y7 : IsZip u7 z TI TO (rawInt u5.objs.size) := y7
  refine wpAny_setField_rec y7 (by simp) fun u8 y8 e8 => ?_
  replace y8 : IsZip u8 z TI TO (rawInt u5.objs.size) := y8
  have k8 : ∀ c o, c ≠ z → u5.get? c = some o → u8.get? c = some o := fun c o d1 e => e8.extBut _ _ d1 (e7.extBut _ _ d1 (Heap.get?_push_of_some _ e))
  have t8 : IsPair u8 u5.objs.size x y := e8.extBut _ _ (Nat.ne_of_gt zlt) (e7.extBut _ _ (Nat.ne_of_gt zlt) (Heap.get?_push_size _ rfl))
  rw [n5] at y8 t8
  refine wpAny_pure ⟨_, rfl, ?_⟩
  show Q (Value.ref u5.objs.size) _
  rw [n5]
  exact q u8 y8 (k8 _ _ D.TOz o5) (F1.moveI j5 fun o e => k8 _ o D.i1z e) (F2.moveI m5 fun o e => k8 _ o D.i2z e) t8 fun c o d1 d2 d3 d4 e => k8 c o d1 (k5 c o d1 d2 d3 d4 e)
theorem zipG_stop {j k : Nat} {a b : Value} {Q : Fin → Shared → Prop} (hA : A.handled = none) (D : ZipApart z TI TO i1 i2 l1 l2) (F1 : Stp P w i1 l1 xs I1 S1) (F2 : Stp P w i2 l2 ys I2 S2)
    (hz : IsZip s.heap z TI TO .none) (hi : IsPair s.heap TI (.ref i1) (.ref i2)) (ho : IsPair s.heap TO a b) (a1 : I1 j s.heap) (a2 : I2 k s.heap) (g1 : S1 s.heap) (g2 : S2 s.heap) (en : xs[j]? = none)
    (q : ∀ h' e, (∀ c o, c ≠ z → c ≠ TO → c ≠ i1 → c ≠ i2 → s.heap.get? c = some o → h'.get? c = some o) → (∃ o, h'.get? e = some o ∧ o.cls = .type "StopIteration") → E (.ref e) { s with heap := h' }) :
    wpAny (model P w) A (Builtin.«zip.__next__» ⟨[.ref z], []⟩) Q E s := by
  show wpAny _ _ (field (Value.ref z) 2 >>= _) _ _ _
  refine wpAny_bind (wpAny_field hz rfl (x := Value.bool false) rfl ?_)
  show wpAny _ _ (field (Value.ref z) 3 >>= _) _ _ _
  refine wpAny_bind (wpAny_field hz rfl (x := Value.ref TI) rfl (wpAny_bind (wpAny_seqItems hi rfl ?_)))
  show wpAny _ _ (Builtin.SmallTypes.ownedTupleIsFree (Value.ref z) >>= _) _ _ _
  unfold Builtin.SmallTypes.ownedTupleIsFree
  refine wpAny_bind (wpAny_bind (wpAny_field hz rfl (x := Value.none) rfl (wpAny_pure ?_)))
  simp only [if_true]
  refine wpAny_bind (wpAny_rule (wpAny_bind (wpAny_field hz rfl (x := Value.ref TO) rfl (wpAny_bind (wpAny_setField_rec hz (by simp) fun u1 y1 e1 => ?_)))))
  replace y1 : IsZip u1 z TI TO .ellipsis := y1
  refine wpAny_bind ?_
  simp only [List.forIn_cons, List.forIn_nil, List.zipIdx_cons, List.zipIdx_nil]
  refine wpAny_bind (wpAny_bind (wpAny_onRaise ?_))
  show wpAny _ _ (Builtin.SmallTypes.nextOf (Value.ref i1) >>= _) _ _ _
  refine wpAny_bind (F1.stop hA (F1.moveI a1 fun o e => e1.extBut _ _ D.i1z e) (F1.moveS g1 fun o e => e1.extBut _ _ D.l1z e) en fun u2 ev e2 hev => ?_)
  obtain ⟨oe, hoe, hce⟩ := hev
  have y2 : IsZip u2 z TI TO .ellipsis := e2 _ _ D.i1z.symm y1
  have nez : ev ≠ z := fun c => by
    subst c
    rw [y2] at hoe
    cases hoe
    simp at hce
  exact wpAny_setField_rec y2 (by simp) fun u3 _ e3 => q u3 ev (fun c o d1 _ d3 _ e => e3.extBut _ _ d1 (e2 _ _ d3 (e1.extBut _ _ d1 e))) ⟨oe, e3.extBut _ _ nez hoe, hce⟩
theorem nextZ_item {j k : Nat} {x y a b : Value} {Q : Option Value → Shared → Prop} (D : ZipApart z TI TO i1 i2 l1 l2) (F1 : Stp P w i1 l1 xs I1 S1) (F2 : Stp P w i2 l2 ys I2 S2)
    (hz : IsZip s.heap z TI TO .none) (hi : IsPair s.heap TI (.ref i1) (.ref i2)) (ho : IsPair s.heap TO a b) (a1 : I1 j s.heap) (a2 : I2 k s.heap) (g1 : S1 s.heap) (g2 : S2 s.heap) (ex : xs[j]? = some x) (ey : ys[k]? = some y)
    (q : ∀ h', IsZip h' z TI TO (rawInt s.heap.objs.size) → IsPair h' TO x y → I1 (j + 1) h' → I2 (k + 1) h' → IsPair h' s.heap.objs.size x y → (∀ c o, c ≠ z → c ≠ TO → c ≠ i1 → c ≠ i2 → s.heap.get? c = some o → h'.get? c = some o) → Q (some (.ref s.heap.objs.size)) { s with heap := h' }) :
    wpAny (model P w) A (pyNext (.ref z)) Q E s := by
  have ty : s.TypeIs (.ref z) "zip" := ⟨_, hz, rfl⟩
  unfold pyNext
  exact wpAny_bind (wpAny_attempt (wpAny_callSpecial?_slot (name := Str.ofString "__next__") ty F.slot_zip_next (wpAny_call_entry F.slot_zip_next ty F.entry_zip_next (zipG_item D F1 F2 hz hi ho a1 a2 g1 g2 ex ey fun h' c1 c2 c3 c4 c5 c6 => wpAny_pure (q h' c1 c2 c3 c4 c5 c6)) (F.args_zip_next_1 _))))
theorem nextZ_stop {j k : Nat} {a b : Value} {Q : Option Value → Shared → Prop} (hA : A.handled = none) (D : ZipApart z TI TO i1 i2 l1 l2) (F1 : Stp P w i1 l1 xs I1 S1) (F2 : Stp P w i2 l2 ys I2 S2)
    (hz : IsZip s.heap z TI TO .none) (hi : IsPair s.heap TI (.ref i1) (.ref i2)) (ho : IsPair s.heap TO a b) (a1 : I1 j s.heap) (a2 : I2 k s.heap) (g1 : S1 s.heap) (g2 : S2 s.heap) (en : xs[j]? = none)
    (q : ∀ h', (∀ c o, c ≠ z → c ≠ TO → c ≠ i1 → c ≠ i2 → s.heap.get? c = some o → h'.get? c = some o) → Q none { s with heap := h' }) : wpAny (model P w) A (pyNext (.ref z)) Q E s := by
  have ty : s.TypeIs (.ref z) "zip" := ⟨_, hz, rfl⟩
  unfold pyNext
  refine wpAny_bind (wpAny_attempt (wpAny_callSpecial?_slot (name := Str.ofString "__next__") ty F.slot_zip_next (wpAny_call_entry F.slot_zip_next ty F.entry_zip_next (zipG_stop hA D F1 F2 hz hi ho a1 a2 g1 g2 en fun h' ev hk hev => ?_) (F.args_zip_next_1 _))))
  obtain ⟨oe, hoe, hce⟩ := hev
  exact wpAny_bind (wpAny_isInstance (T := "StopIteration") (b := true) ⟨oe, hoe, hce⟩ isSubtype_stop (wpAny_pure (q _ hk)))
end
theorem zipTL_new (a b : Addr) (xs ys : Array Value) : Meets (Builtin.«zip.__new__» ⟨[.type "zip", .ref a, .ref b], []⟩) (fun _ R s => s.heap.IsTuple a xs ∧ s.heap.IsList b ys ∧
    ∀ h', h' = ((((s.heap.push { cls := .type "tuple_iterator", data := .fields #[.ref a, .int 0 0] }).push { cls := .type "list_iterator", data := .fields #[.ref b, .int 0 0] }).push { cls := .type "tuple", data := .seq #[.ref s.heap.objs.size, .ref (s.heap.objs.size + 1)] }).push { cls := .type "tuple", data := .seq #[.none, .none] }).push { cls := .type "zip", data := .fields #[.none, .bool false, .bool false, .ref (s.heap.objs.size + 2), .ref (s.heap.objs.size + 3)] } →
      R (.ok (.ret (.ref (s.heap.objs.size + 4)))) { s with heap := h' }) :=
  .of_wp fun P w A R s h => by
    obtain ⟨hp, g, d, tk, os⟩ := s
    obtain ⟨t1, t2, h⟩ := h
    have hsub := sub_zip
    have T1 : Heap.IsTuple (Shared.heap ⟨hp, g, d, tk, os⟩) a xs := t1
    have T2 : Heap.IsList (Shared.heap ⟨hp.push { cls := .type "tuple_iterator", data := .fields #[.ref a, .int 0 0] }, g, d, tk, os⟩) b ys := Heap.IsList.push t2 _
    have n1 : (hp.push { cls := .type "tuple_iterator", data := .fields #[.ref a, .int 0 0] }).objs.size = hp.objs.size + 1 := Heap.size_push ..
    wp_walk using wpAny_pyIter_tuple T1, wpAny_pyIter_list T2
    simp only [Heap.size_push] at h ⊢
    exact ⟨_, rfl, h _ rfl⟩
theorem call_zipTL {P : Program} {w : World} {A : Around} {E : Value → Shared → Prop} {s : Shared} {a b : Addr} {xs ys : Array Value} {Q : Value → Shared → Prop} (t1 : s.heap.IsTuple a xs) (t2 : s.heap.IsList b ys)
    (q : ∀ h', IsZip h' (s.heap.objs.size + 4) (s.heap.objs.size + 2) (s.heap.objs.size + 3) .none → IsPair h' (s.heap.objs.size + 2) (.ref s.heap.objs.size) (.ref (s.heap.objs.size + 1)) → IsPair h' (s.heap.objs.size + 3) .none .none →
      h'.IsTupleIter s.heap.objs.size a 0 → h'.IsListIter (s.heap.objs.size + 1) b 0 → (∀ c o, s.heap.get? c = some o → h'.get? c = some o) → Q (.ref (s.heap.objs.size + 4)) { s with heap := h' }) :
    wpAny (model P w) A (call (.type "zip") [.ref a, .ref b]) Q E s := by
  refine callType_new F.called_zip (by decide) (F.typeCall_zip_2 _ _) (F.newCall_zip_2 _ _) (fun ob => F.args_object_init_3 ob _ _) F.entry_zip_new (zipTL_new a b xs ys) ⟨t1, t2, fun h' e => ?_⟩
  let u1 := s.heap.push { cls := .type "tuple_iterator", data := .fields #[.ref a, .int 0 0] }
  let u2 := u1.push { cls := .type "list_iterator", data := .fields #[.ref b, .int 0 0] }
  let u3 := u2.push { cls := .type "tuple", data := .seq #[.ref s.heap.objs.size, .ref (s.heap.objs.size + 1)] }
  let u4 := u3.push { cls := .type "tuple", data := .seq #[.none, .none] }
  let u5 := u4.push { cls := .type "zip", data := .fields #[.none, .bool false, .bool false, .ref (s.heap.objs.size + 2), .ref (s.heap.objs.size + 3)] }
  have n1 : u1.objs.size = s.heap.objs.size + 1 := Heap.size_push ..
  have n2 : u2.objs.size = s.heap.objs.size + 2 := by show (u1.push _).objs.size = _; rw [Heap.size_push, n1]
  have n3 : u3.objs.size = s.heap.objs.size + 3 := by show (u2.push _).objs.size = _; rw [Heap.size_push, n2]
  have n4 : u4.objs.size = s.heap.objs.size + 4 := by show (u3.push _).objs.size = _; rw [Heap.size_push, n3]
  have eh : h' = u5 := e
  have w5 : u5.get? u4.objs.size = some { cls := .type "zip", data := .fields #[.none, .bool false, .bool false, .ref (s.heap.objs.size + 2), .ref (s.heap.objs.size + 3)] } := Heap.get?_push_size _ rfl
  have w4 : u5.get? u3.objs.size = some { cls := .type "tuple", data := .seq #[.none, .none] } := Heap.get?_push_of_some _ (Heap.get?_push_size _ rfl)
  have w3 : u5.get? u2.objs.size = some { cls := .type "tuple", data := .seq #[.ref s.heap.objs.size, .ref (s.heap.objs.size + 1)] } := Heap.get?_push_of_some _ (Heap.get?_push_of_some _ (Heap.get?_push_size _ rfl))
  have w2 : u5.get? u1.objs.size = some { cls := .type "list_iterator", data := .fields #[.ref b, .int 0 0] } := Heap.get?_push_of_some _ (Heap.get?_push_of_some _ (Heap.get?_push_of_some _ (Heap.get?_push_size _ rfl)))
  have w1 : u5.get? s.heap.objs.size = some { cls := .type "tuple_iterator", data := .fields #[.ref a, .int 0 0] } := Heap.get?_push_of_some _ (Heap.get?_push_of_some _ (Heap.get?_push_of_some _ (Heap.get?_push_of_some _ (Heap.get?_push_size _ rfl))))
  rw [n1] at w2
  rw [n2] at w3
  rw [n3] at w4
  rw [n4] at w5
  rw [← eh] at w1 w2 w3 w4 w5
  refine ⟨⟨_, w5, rfl⟩, q h' w5 w3 w4 ⟨_, w1, rfl, rfl⟩ ⟨_, w2, rfl, rfl⟩ fun c o ec => ?_⟩
  rw [eh]
  exact Heap.get?_push_of_some _ (Heap.get?_push_of_some _ (Heap.get?_push_of_some _ (Heap.get?_push_of_some _ (Heap.get?_push_of_some _ ec))))
def ItTL (K : PySem.W.Frag) (a b : Addr) : It :=
  ⟨fun i H => ∃ xs ys x y, SqT K H a xs ∧ SqL K H b ys ∧ xs[i]? = some x ∧ ys[i]? = some y,
   fun i H x H' => ∃ p u v, (∀ xs, SqT K H a xs → xs[i]? = some u) ∧ (∀ ys, SqL K H b ys → ys[i]? = some v) ∧ H p = none ∧ x = .ref p ∧ H' = upd H p (.tup [u, v]),
   fun i H => ∃ xs ys, SqT K H a xs ∧ SqL K H b ys ∧ xs.length = i ∧ ys.length = i⟩
def ZipTL (n a b : Addr) (i : Nat) (h : Heap) : Prop := IsZip h (n + 4) (n + 2) (n + 3) .none ∧ IsPair h (n + 2) (.ref n) (.ref (n + 1)) ∧ (∃ x y, IsPair h (n + 3) x y) ∧ h.IsTupleIter n a i ∧ h.IsListIter (n + 1) b i
theorem ZipTL.obj {n a b : Addr} {i : Nat} {h : Heap} (st : ZipTL n a b i h) : ∀ c ∈ zipFp n, ∃ o, h.get? c = some o ∧ ∀ v, o.data ≠ .cell v := by
  obtain ⟨h1, h2, ⟨x, y, h3⟩, ⟨o4, e4, c4, d4⟩, ⟨o5, e5, c5, d5⟩⟩ := st
  intro c hc
  simp only [zipFp, List.mem_cons, List.not_mem_nil, or_false] at hc
  rcases hc with rfl | rfl | rfl | rfl | rfl
  · exact ⟨_, h1, fun v z => nomatch z⟩
  · exact ⟨_, h2, fun v z => nomatch z⟩
  · exact ⟨_, h3, fun v z => nomatch z⟩
  · exact ⟨o4, e4, fun v z => by rw [d4] at z; cases z⟩
  · exact ⟨o5, e5, fun v z => by rw [d5] at z; cases z⟩
theorem ZipTL.keep {n a b : Addr} {i : Nat} {h h' : Heap} (st : ZipTL n a b i h) (kk : ∀ c ∈ zipFp n, ∀ o, h.get? c = some o → h'.get? c = some o) : ZipTL n a b i h' := by
  obtain ⟨h1, h2, ⟨x, y, h3⟩, ⟨o4, e4, r4⟩, ⟨o5, e5, r5⟩⟩ := st
  exact ⟨kk _ (by simp [zipFp]) _ h1, kk _ (by simp [zipFp]) _ h2, ⟨x, y, kk _ (by simp [zipFp]) _ h3⟩, ⟨o4, kk _ (by simp [zipFp]) _ e4, r4⟩, ⟨o5, kk _ (by simp [zipFp]) _ e5, r5⟩⟩
theorem wr_sub {n c : Addr} (hc : c ∈ [n + 4, n + 3, n, n + 1]) : c ∈ zipFp n := by
  simp only [zipFp, List.mem_cons, List.not_mem_nil, or_false] at hc ⊢
  rcases hc with z | z | z | z <;> simp [z]
theorem wr_not {n c : Addr} (hc : c ∉ [n + 4, n + 3, n, n + 1]) : c ≠ n + 4 ∧ c ≠ n + 3 ∧ c ≠ n ∧ c ≠ n + 1 := by
  simp only [List.mem_cons, List.not_mem_nil, or_false, not_or] at hc
  exact hc
theorem turn_zipTL {P : Program} {w : World} {K : PySem.W.Frag} {elts : List Expr} {k : Nat} {pos : Pos} (n a b : Addr) (ha : a < n) (hb : b < n) :
    Turn P w K (.Tuple elts k pos) (ItTL K a b) (zipFp n) (n + 4) (ZipTL n a b) where
  mem := by simp [zipFp]
  obj := fun i h st => st.obj
  keep := fun i h h' st kk => st.keep kk
  item := by
    intro X hP hw hK hc i pins s σ H E I hf st hg
    subst hP hw hK
    obtain ⟨xs, ys, x, y, hq1, hq2, hx, hy⟩ := hg
    obtain ⟨its1, rv1, p1, hz1⟩ := I.tuple hq1
    obtain ⟨its2, rv2, p2, hz2⟩ := I.list hq2
    obtain ⟨u1, hu1, ru1⟩ := rv1.get hx
    obtain ⟨u2, hu2, ru2⟩ := rv2.get hy
    have hfw : ∀ c ∈ [n + 4, n + 3, n, n + 1], FpOk X pins H c := fun c hc => hf c (wr_sub hc)
    have D := PySem.W.ktu_apart n a b ha hb
    obtain ⟨zz, zi, ⟨o1, o2, zo⟩, za, zb⟩ := id st
    have szT := Nat.le_refl s.heap.objs.size
    refine nextZ_item D (stp_tup n a its1.toArray) (stp_list (n + 1) b its2.toArray) zz zi zo za zb p1 p2.isList (by simpa using hu1) (by simpa using hu2) fun h' c1 c2 c3 c4 c5 c6 => ?_
    have hk : ∀ c o, c ∉ [n + 4, n + 3, n, n + 1] → s.heap.get? c = some o → h'.get? c = some o := fun c o hc e => by
      obtain ⟨d1, d2, d3, d4⟩ := wr_not hc
      exact c6 c o d1 d2 d3 d4 e
    have I1 : Inv X pins σ H { s with heap := h' } := I.turnedL (t' := s.toks) hk hfw
    have hHT : H s.heap.objs.size = none := I.hok.fresh szT
    have fT : FpOk X pins H s.heap.objs.size := I.fpOk szT hHT
    have lt4 : n + 4 < s.heap.objs.size := Heap.lt_size zz
    have zi' : IsPair h' (n + 2) (.ref n) (.ref (n + 1)) := c6 _ _ D.TIz D.TITO D.TIi1 D.TIi2 zi
    refine ⟨_, rfl, wpAny_letOwnedTupleGo_zip c1 fun h2 c7 c8 => ?_⟩
    have hk2 : ∀ c o, c ∉ [n + 4, n + 3, n, n + 1] → h'.get? c = some o → h2.get? c = some o := fun c o hc e => c8.extBut c o (wr_not hc).1 e
    have I2 : Inv X pins σ H { s with heap := h2 } := I1.turnedL (h' := h2) (t' := s.toks) hk2 hfw
    have hT2 : h2.IsTuple s.heap.objs.size #[u1, u2] := ⟨_, c8.extBut _ _ (Nat.ne_of_gt lt4) c5, rfl, _, rfl⟩
    have I3 : Inv X pins σ (upd H s.heap.objs.size (.tup [x, y])) { s with heap := h2 } :=
      I2.track fT ⟨by show 2 ≤ sizeLine; decide, [u1, u2], .cons ru1 (.cons ru2 .nil), hT2⟩
    refine ⟨.ref s.heap.objs.size, _, I3, rfl, ⟨s.heap.objs.size, x, y, fun zs hz' => by rw [I.tuple_inj hz' hq1]; exact hx, fun zs hz' => by rw [I.list_inj hz' hq2]; exact hy, hHT, rfl, rfl⟩, ⟨c7, c8.extBut _ _ D.TIz zi', ⟨_, _, c8.extBut _ _ D.TOz c2⟩, c3.at fun o e => c8.extBut _ o D.i1z e, c4.at fun o e => c8.extBut _ o D.i2z e⟩, fun c hc' => ?_⟩
    obtain ⟨o, ho, _⟩ := st.obj c hc'
    have hlt := Heap.lt_size ho
    rw [upd_ne (fun z => by rw [z] at hlt; exact absurd hlt (Nat.lt_irrefl _))]
    exact (hf c hc').1
  done := by
    intro X hP hw hK hc i pins s σ H E I hf st hg
    subst hP hw hK
    obtain ⟨xs, ys, hq1, hq2, hx, hy⟩ := hg
    obtain ⟨its1, rv1, p1, hz1⟩ := I.tuple hq1
    obtain ⟨its2, rv2, p2, hz2⟩ := I.list hq2
    have l1 := rv1.length
    have D := PySem.W.ktu_apart n a b ha hb
    obtain ⟨zz, zi, ⟨o1, o2, zo⟩, za, zb⟩ := id st
    refine nextZ_stop (I.ok.hd hc) D (stp_tup n a its1.toArray) (stp_list (n + 1) b its2.toArray) zz zi zo za zb p1 p2.isList (by simp; omega) fun h' c6 => ⟨rfl, ?_⟩
    refine I.turnedL (t' := s.toks) (ch := [n + 4, n + 3, n, n + 1]) (fun c o hc e => ?_) fun c hc => hf c (wr_sub hc)
    obtain ⟨d1, d2, d3, d4⟩ := wr_not hc
    exact c6 c o d1 d2 d3 d4 e
  self := fun _ _ _ _ _ st h => wpAny_pyIter_zip st.1 h
section
variable {X : Cx} {elts : List Expr} {k : Nat} {tpos : Pos}
def iZipTL (K : PySem.W.Frag) (ta : TA) : TI := fun σ H R => ta σ H fun vs H1 => ∃ a b, vs = [.ref a, .ref b] ∧ (∃ xs, SqT K H1 a xs) ∧ (∃ ys, SqL K H1 b ys) ∧ R (ItTL K a b) H1
theorem pi_zipTL {e1 e2 : Expr} {ta : TA} {p pos : Pos} (hg : Gl X "zip") (hm : X.mg "zip" = none) (ha : PA X [e1, e2] ta) (hs : starEach [e1, e2] X.env = (false, eval e1 X.env) :: starEach [e2] X.env := by rfl) (hs2 : ∀ pos, (backTo pos (starEach [e2] X.env)).any (·.1) = false := by intro _; rfl) :
    PI X (.Tuple elts k tpos) (.Call (.Name "zip" p) [e1, e2] [] pos) (iZipTL X.K ta) := by
  intro pins s σ H R I h
  refine Call_ (ld_blt I hg hm boot_zip (PyProof.Rows.callWith_type1 (thn (ha pos pins s σ H _ I h) fun us s1 ⟨vs, H1, I1, r1, q1⟩ => ?_) hs (hs2 _)))
  obtain ⟨a, b, e, ⟨xs, hq1⟩, ⟨ys, hq2⟩, q⟩ := q1
  subst e
  cases r1 with
  | cons ra rr =>
  cases rr with
  | cons rb rr =>
    cases rr
    cases ra
    cases rb
    obtain ⟨its1, rv1, p1, hz1⟩ := I1.tuple hq1
    obtain ⟨its2, rv2, p2, hz2⟩ := I1.list hq2
    have la : a < s1.heap.objs.size := by obtain ⟨o, ho, _⟩ := p1; exact Heap.lt_size ho
    have lb : b < s1.heap.objs.size := by obtain ⟨o, ho, _⟩ := p2.isList; exact Heap.lt_size ho
    refine call_zipTL p1 p2.isList fun h' z1 z2 z3 z4 z5 hk => ?_
    have I2 : Inv X pins σ H1 { s1 with heap := h' } := I1.kept (t' := s1.toks) hk
    refine wpAny_pyIter_zip z1 ⟨s1.heap.objs.size + 4, zipFp s1.heap.objs.size, _, _, H1, rfl, I2, turn_zipTL s1.heap.objs.size a b la lb, ⟨z1, z2, ⟨_, _, z3⟩, z4, z5⟩, fun c hc => ?_, q⟩
    have hc' : s1.heap.objs.size ≤ c := by
      simp only [zipFp, List.mem_cons, List.not_mem_nil, or_false] at hc
      rcases hc with z | z | z | z | z <;> rw [z] <;> first | exact Nat.le_refl _ | exact Nat.le_add_right _ _
    exact I1.fpOk hc' (I1.hok.fresh hc')
end
theorem for_zipTL {K : PySem.W.Frag} {a b : Addr} {xs ys : List V} {g : TG} {tb : TS} {D : Ends} {σ : St} {H : Hp} (Pv : Nat → St → Hp → Prop) (hlen : xs.length = ys.length) (h0 : Pv 0 σ H) (hl : ∀ i σ H, i ≤ xs.length → Pv i σ H → SqT K H a xs ∧ SqL K H b ys)
    (hs : ∀ i x y p σ H, xs[i]? = some x → ys[i]? = some y → Pv i σ H → H p = none → g (.ref p) σ (upd H p (.tup [x, y])) fun σ2 H2 => tb { D with nx := Pv (i + 1), ct := Pv (i + 1), bk := D.nx } σ2 H2) (hd : ∀ σ H, Pv xs.length σ H → D.nx σ H) :
    ∃ W : Nat → Nat → St → Hp → Prop, (∃ m, W 0 m σ H) ∧ ∀ i m σ H, W i m σ H →
      ((ItTL K a b).stop i H ∧ D.nx σ H) ∨ ((ItTL K a b).go i H ∧ ∃ N : St → Hp → Prop, (∀ σ' H', N σ' H' → ∃ m', m' < m ∧ W (i + 1) m' σ' H') ∧ ∀ x H', (ItTL K a b).yld i H x H' → g x σ H' fun σ2 H2 => tb { D with nx := N, ct := N, bk := D.nx } σ2 H2) := by
  refine ⟨fun i m σ H => m = xs.length - i ∧ i ≤ xs.length ∧ Pv i σ H, ⟨xs.length, by simp, Nat.zero_le _, h0⟩, ?_⟩
  rintro i m σ H ⟨rfl, hi, p⟩
  have q := hl i σ H hi p
  by_cases hlt : i < xs.length
  · have hlt2 : i < ys.length := by omega
    refine .inr ⟨⟨xs, ys, xs[i], ys[i], q.1, q.2, by simp [hlt], by simp [hlt2]⟩, Pv (i + 1), fun σ' H' p' => ⟨xs.length - (i + 1), by omega, rfl, hlt, p'⟩, fun x H' y => ?_⟩
    obtain ⟨pp, u, v, y1, y2, hn, e1, e2⟩ := y
    subst e1 e2
    exact hs i u v pp σ _ (y1 xs q.1) (y2 ys q.2) p hn
  · have e : i = xs.length := by omega
    subst e
    exact .inl ⟨⟨xs, ys, q.1, q.2, rfl, hlen.symm⟩, hd σ H p⟩
end L2
set_option Elab.async false
set_option linter.all false
set_option maxRecDepth 100000
set_option maxHeartbeats 4000000
namespace L2
open PySem PySem.Spec PyProof.Rows PySem.W
section
variable {P : Program} {w : World} {A : Around} {E : Value → Shared → Prop} {s : Shared} {d : Addr} {es : Array DictEntry} {ep : Nat}
end
section
variable {X : Cx}
end
end L2
set_option Elab.async false
set_option linter.all false
set_option maxRecDepth 100000
set_option maxHeartbeats 4000000
namespace L2
open PySem PySem.Spec PyProof.Rows
section
variable {X : Cx}
end
end L2
set_option Elab.async false
set_option linter.all false
set_option maxRecDepth 100000
set_option maxHeartbeats 4000000
namespace L2
open PySem PySem.Spec PyProof.Rows PySem.W
section
variable {prog : Program} {w : World} {KT : Type} [DecidableEq KT] {knd : KeyKind prog w KT} {A : Around} {E : Value → Shared → Prop} {s : Shared} {r d : Addr} {kvs : List (KT × Value)} {ep : Nat}
end
theorem kv_at : ∀ {kvs : List (Key × V)} {vs : List (Key × Value)} {j : Nat} {k : Key} {x : Value}, KV kvs vs → vs[j]? = some (k, x) → ∃ p, kvs[j]? = some p ∧ p.1 = k ∧ RelV p.2 x
  | _, _, j, _, _, .nil, h => by simp at h
  | _, _, 0, _, _, .cons (a := p) (b := q) h _, e => by
    rw [List.getElem?_cons_zero] at e
    cases e
    exact ⟨p, List.getElem?_cons_zero, h.1, h.2⟩
  | _, _, j + 1, _, _, .cons (a := p) (b := q) _ r, e => by
    rw [List.getElem?_cons_succ] at e
    obtain ⟨p', h1, h2⟩ := kv_at r e
    exact ⟨p', by rw [List.getElem?_cons_succ]; exact h1, h2⟩
section
variable {X : Cx} {o : Expr} {to : TE} {apos cpos : Pos}
end
end L2
set_option Elab.async false
set_option linter.all false
set_option maxRecDepth 100000
set_option maxHeartbeats 4000000
namespace L2
open PySem PySem.Spec PyProof.Rows PySem.W
section
variable {X : Cx} {pins : List (Addr × Obj)} {σ : List (Option V)} {H : Hp} {s : Shared}
theorem Inv.freeze {d : Addr} {o : Obj} {u : HO} (I : Inv X pins σ H s) (h : H d = some u) (n1 : ∀ xs, u ≠ .tup xs) (n2 : ∀ o' u', u ≠ .frz o' u') (n3 : ∀ ps, u ≠ .tbl ps) (n4 : ∀ a, u ≠ .own a) (ho : s.heap.get? d = some o) : Inv X pins σ (upd H d (.frz o u)) s := by
  have ne : ∀ {b : Addr} {v : HO}, H b = some v → v ≠ u → b ≠ d := fun {b v} e hv z => by
    rw [z, h] at e
    exact hv (Option.some.inj e).symm
  have kt : ∀ (b : Addr) (xs : List V), H b = some (.tup xs) → upd H d (.frz o u) b = some (.tup xs) := fun b xs e => by
    rw [upd_ne (ne e fun z => n1 xs z.symm)]
    exact e
  have ko : ∀ (a b : Addr), H b = some (.own a) → upd H d (.frz o u) b = some (.own a) := fun a b e => by
    rw [upd_ne (ne e fun z => n4 a z.symm)]
    exact e
  refine I.step (h' := s.heap) (g' := s.gens) (d' := s.drawn) (t' := s.toks) (ch := []) (fun _ z => nomatch z) (fun b ob _ _ _ e _ => e) (fun b ob _ _ _ e _ => ⟨ob.slots, e⟩)
    (fun b ob _ _ n => by rw [upd_ne (fun z => by rw [z, h] at n; cases n)]; exact n) (fun b ob _ e => ⟨ob, e⟩) kt
    (fun b ob v e => by rw [upd_ne (ne e fun z => n2 ob v z.symm)]; exact e) (fun b ps e => ⟨#[], by rw [upd_ne (ne e fun z => n3 ps z.symm), e]; simp⟩) (fun m hm => hm) (fun b v e => ?_) I.bare
  by_cases hb : b = d
  · subst hb
    rw [upd_same] at e
    cases e
    exact ⟨ho, (I.hok b u h).stay (fun c w _ q => q) (fun c q => ko b c q) kt⟩
  · rw [upd_ne hb] at e
    exact (I.hok b v e).stay (fun c w _ q => q) (fun c q => ko b c q) kt
end
section
variable {X : Cx} {tg : Expr}
end
end L2
set_option Elab.async false
set_option linter.all false
set_option maxRecDepth 100000
set_option maxHeartbeats 4000000
namespace L2
open PySem PySem.Spec PyProof.Rows PySem.W
def ItI (d : Addr) (o : Obj) (u : HO) (kvs : List (Key × V)) : It :=
  ⟨fun i H => H d = some (.frz o u) ∧ i < kvs.length, fun i H x H' => ∃ p kv, kvs[i]? = some kv ∧ H p = none ∧ x = .ref p ∧ H' = upd H p (.tup [kV kv.1, kv.2]), fun i H => H d = some (.frz o u) ∧ kvs.length ≤ i⟩
theorem turn_items {P : Program} {w : World} {K : PySem.W.Frag} {elts : List Expr} {k : Nat} {pos : Pos} {d it : Addr} {o : Obj} {u : HO} {kvs : List (Key × V)} {vs : List (Key × Value)} {ep : Nat} (hne : d ≠ it) (rel : KV kvs vs) (hat : ∀ h : Heap, h.get? d = some o → h.DictAt (mixKind P w) d vs ep) :
    Turn P w K (.Tuple elts k pos) (ItI d o u kvs) [it] it (fun i h => ∃ ok ov, IsItemIter h it d i vs.length ep ok ov) where
  mem := by simp
  obj := fun i h st b hb => by
    have z : b = it := by simpa using hb
    subst z
    obtain ⟨ok, ov, he⟩ := st
    exact ⟨_, he, fun v z => by
      have z' : Data.fields _ = Data.cell v := z
      cases z'⟩
  keep := fun i h h' st kk => by
    obtain ⟨ok, ov, he⟩ := st
    exact ⟨ok, ov, kk it (by simp) _ he⟩
  item := by
    intro X hP hw hK hc i pins s σ H E I hf st hg
    subst hP hw hK
    obtain ⟨hfz, hi⟩ := hg
    obtain ⟨ok, ov, he⟩ := st
    have hod : s.heap.get? d = some o := (show ObjOk X.prog X.w H s.heap d (.frz o u) from I.hok d _ hfz).1
    have hl := rel.length
    obtain ⟨⟨kk, x⟩, hx⟩ : ∃ p, vs[i]? = some p := ⟨vs[i], by simp [show i < vs.length by omega]⟩
    obtain ⟨kv, hkv, ek, rv⟩ := kv_at rel hx
    obtain ⟨f0, f1, f2, f3, f4, f5⟩ := hf it (by simp)
    refine wpAny_pyNext_items_item he (hat _ hod) hx fun key h' hkey ho hT hsz hk => ?_
    have I1 : Inv X pins σ H { s with heap := h' } := I.turned (t' := s.toks) (fun b ob hb e => hk b ob hb e) f0 f1 f3 f4 f5
    have hHT : H s.heap.objs.size = none := I.hok.fresh (Nat.le_refl _)
    have fT : FpOk X pins H s.heap.objs.size := I.fpOk (Nat.le_refl _) hHT
    have hTI : s.heap.objs.size ≠ it := Nat.ne_of_gt (Heap.lt_size he)
    refine ⟨_, rfl, ?_⟩
    refine wpAny_letOwnedTupleGo_items (s := { s with heap := h' }) ho fun h2 he2 hs2 => ?_
    have I2 : Inv X pins σ H { s with heap := h2 } := I1.turned (t' := s.toks) (fun b ob hb e => hs2.extBut b ob hb e) f0 f1 f3 f4 f5
    have hT2 : h2.get? s.heap.objs.size = some { cls := .type "tuple", data := .seq #[key, x] } := hs2.extBut _ _ hTI hT
    have I3 : Inv X pins σ (upd H s.heap.objs.size (.tup [kV kv.1, kv.2])) { s with heap := h2 } :=
      I2.track fT ⟨by show 2 ≤ sizeLine; decide, [key, x], .cons (by rw [ek]; exact is_kV hkey) (.cons rv .nil), ⟨_, hT2, rfl, 0, rfl⟩⟩
    refine ⟨.ref s.heap.objs.size, _, I3, rfl, ⟨s.heap.objs.size, kv, hkv, hHT, rfl, rfl⟩, ⟨_, _, he2⟩, fun b hb => ?_⟩
    have z : b = it := by simpa using hb
    rw [z, upd_ne hTI.symm]
    exact (hf it (by simp)).1
  done := by
    intro X hP hw hK hc i pins s σ H E I hf st hg
    subst hP hw hK
    obtain ⟨hfz, hi⟩ := hg
    obtain ⟨ok, ov, he⟩ := st
    have hod : s.heap.get? d = some o := (show ObjOk X.prog X.w H s.heap d (.frz o u) from I.hok d _ hfz).1
    have hl := rel.length
    obtain ⟨f0, f1, f2, f3, f4, f5⟩ := hf it (by simp)
    exact wpAny_pyNext_items_end (I.ok.hd hc) he (hat _ hod) (List.getElem?_eq_none (by omega)) fun h' eb => ⟨rfl, I.turned (t' := s.toks) (fun b ob hb e => eb b ob hb e) f0 f1 f3 f4 f5⟩
  self := fun _ _ _ _ _ st h => by
    obtain ⟨ok, ov, he⟩ := st
    exact kcp_self he h
section
variable {X : Cx} {o : Expr} {to : TE} {apos cpos : Pos} {elts : List Expr} {k : Nat} {tpos : Pos}
def iItems (te : TE) : TI := fun σ H R => te σ H fun x H1 => ∃ d kvs, x = .ref d ∧ H1 d = some (.dK kvs) ∧ ∀ ob, R (ItI d ob (.dK kvs) kvs) (upd H1 d (.frz ob (.dK kvs)))
theorem pi_items (ho : PE X o to) (hbase : attributeBase o "items" X.env (eval o X.env) = eval o X.env := by rfl) (hline : (apos.endLine == cpos.line) = true := by rfl) : PI X (.Tuple elts k tpos) (.Call (.Attribute o "items" apos) [] [] cpos) (iItems to) := by
  intro pins s σ H R I h
  refine wpAny_Call_method0_late hbase hline (thn (ho pins s σ H _ I h) fun v s1 ⟨x, H1, I1, r1, d, kvs, ex, hD, q1⟩ => ?_)
  subst ex
  obtain rfl : v = Value.ref d := r1
  obtain ⟨z, hsm, vs, rel, dd⟩ := dk_rd I1.hok (Rd.of hD)
  refine ⟨"dict", "dict.items", PySem.F.plainAttrs_dict, PySem.F.slot_dict_items, PySem.F.type_dict_items, dd.typeIs, dd.mapOf.noDict, Calls.callWith_builtin rfl (PySem.evalArgs_none ?_)⟩
  refine call_meetsIn PySem.F.slot_dict_items dd.typeIs PySem.F.entry_dict_items (PySem.F.args_dict_items_1 _) (meets_dict_items (mixKind X.prog X.w) d hsm) ⟨⟨_, dd⟩, ?_⟩
  obtain ⟨ep, hat⟩ := dd.dictAt
  obtain ⟨ob, es, hob, hrest⟩ := id hat
  have hv : (s1.heap.push { cls := .type "dict_items", data := .fields #[.ref d] }).IsItemsView s1.heap.objs.size d := ⟨_, Heap.get?_push_size _ rfl, rfl, rfl⟩
  have I2 := I1.freeze hD (fun _ z => nomatch z) (fun _ _ z => nomatch z) (fun _ z => nomatch z) (fun _ z => nomatch z) hob
  have I3 : Inv X pins σ (upd H1 d (.frz ob (.dK kvs))) { s1 with heap := s1.heap.push { cls := .type "dict_items", data := .fields #[.ref d] } } := I2.kept (t' := s1.toks) fun b w e => Heap.get?_push_of_some _ e
  refine wpAny_pyIter_items (s := { s1 with heap := s1.heap.push { cls := .type "dict_items", data := .fields #[.ref d] } }) hv (hat.push _) ?_
  have hlt : d < s1.heap.objs.size := Heap.lt_size hob
  have hsz : (s1.heap.push { cls := .type "dict_items", data := .fields #[.ref d] }).objs.size = s1.heap.objs.size + 1 := Heap.size_push ..
  refine ⟨_, [_], _, _, _, rfl, I3.kept (t' := s1.toks) fun b w e => Heap.get?_push_of_some _ e, turn_items (o := ob) (Nat.ne_of_lt (by rw [hsz]; exact Nat.lt_succ_of_lt hlt)) rel (fun h' e => ⟨ob, es, e, hrest⟩), ⟨_, _, Heap.get?_push_size _ rfl⟩, fun b hb => ?_, q1 ob⟩
  have z : b = (s1.heap.push { cls := .type "dict_items", data := .fields #[.ref d] }).objs.size := by simpa using hb
  subst z
  exact I3.fpOk (Nat.le_refl _) (I3.hok.fresh (Nat.le_refl _))
end
theorem comp_items {d : Addr} {o : Obj} {u : HO} {kvs : List (Key × V)} {g : TG} {tt : TT} {te : TE} {Q : Hp → Prop} {σ : L2.St} {H : Hp} {D : Addr} (Pv : Nat → L2.St → Hp → Prop) (h0 : Pv 0 σ (upd H D (.lst [])))
    (hl : ∀ i σ2 H2, Pv i σ2 H2 → H2 d = some (.frz o u))
    (hs : ∀ i kv p σ2 H2, kvs[i]? = some kv → Pv i σ2 H2 → H2 p = none → g (.ref p) σ2 (upd H2 p (.tup [kV kv.1, kv.2])) fun σ4 H4 => tt σ4 H4 fun b H5 =>
      if b = true then te σ4 H5 fun y H6 => ∃ ys, H6 D = some (.lst ys) ∧ ys.length < sizeLine ∧ Pv (i + 1) σ4 (upd H6 D (.lst (ys ++ [y]))) else Pv (i + 1) σ4 H5)
    (hd : ∀ σ2 H2, Pv kvs.length σ2 H2 → Q H2) :
    ∃ W : Nat → Nat → L2.St → Hp → Prop, (∃ m, W 0 m σ (upd H D (.lst []))) ∧ ∀ i m σ2 H2, W i m σ2 H2 →
      ((ItI d o u kvs).stop i H2 ∧ Q H2) ∨ ((ItI d o u kvs).go i H2 ∧ ∃ N : L2.St → Hp → Prop, (∀ σ' H', N σ' H' → ∃ m', m' < m ∧ W (i + 1) m' σ' H') ∧ ∀ x H3, (ItI d o u kvs).yld i H2 x H3 → g x σ2 H3 fun σ4 H4 => tt σ4 H4 fun b H5 =>
        if b = true then te σ4 H5 fun y H6 => ∃ ys, H6 D = some (.lst ys) ∧ ys.length < sizeLine ∧ N σ4 (upd H6 D (.lst (ys ++ [y]))) else N σ4 H5) := by
  refine comp_by kvs.length Pv h0 (fun i σ2 H2 hi p => ?_) fun σ2 H2 p => ⟨⟨hl _ _ _ p, Nat.le_refl _⟩, hd _ _ p⟩
  refine ⟨⟨hl _ _ _ p, hi⟩, fun x H3 hy => ?_⟩
  obtain ⟨q, kv, hkv, hq, rfl, rfl⟩ := hy
  exact hs i kv q σ2 H2 hkv p hq
section
variable {X : Cx} {o e f : Expr} {apos cpos : Pos} {td ty tx : TE}
def tDSet (td ty tx : TE) : TE := fun σ H Q => td σ H fun x H1 => ∃ a, x = .ref a ∧ IsD H1 a ∧ ty σ H1 fun y H2 => tx σ H2 fun z H3 => ∃ kvs k, H3 a = some (.dK kvs) ∧ y = kV k ∧ kvs.length < sizeLine ∧
  (∀ v, valV kvs k = some v → Q v H3) ∧ (valV kvs k = none → Q z (upd H3 a (.dK (putK kvs k z))))
theorem pe_dset2 (ho : PE X o td) (he : PE X e ty) (hf : PE X f tx) (m : M2 X o "setdefault" apos e f cpos) : PE X (.Call (.Attribute o "setdefault" apos) [e, f] [] cpos) (tDSet td ty tx) := by
  intro pins s σ H Q I h
  refine wpAny_Call_method m.base m.few m.line PySem.F.plainAttrs_dict PySem.F.slot_dict_setdefault PySem.F.type_dict_setdefault (thn (ho pins s σ H _ I h) fun u s1 ⟨x, H1, I1, rx, a, ex, d, q1⟩ => ?_)
  subst ex
  obtain rfl : u = Value.ref a := rx
  obtain ⟨t1, t2, _⟩ := isD_at I1 d
  refine ⟨t1, t2, ?_⟩
  rw [m.trees]
  refine Calls.callWith_builtin rfl (Calls.evalArgs_plain (Calls.spliced_cons (thn (he pins s1 σ H1 _ I1 q1) fun iv s2 ⟨y, H2, I2, ry, q2⟩ =>
    Calls.spliced_cons (thn (hf pins s2 σ H2 _ I2 q2) fun fv s3 ⟨z, H3, I3, rz, kvs, k, ea, ey, hlt, q3, q4⟩ => Calls.spliced_nil ?_))))
  subst ey
  obtain ⟨zz, hd, vs, rel, dd⟩ := dk_of I3.hok ea
  have hz : vs.length ≤ sizeLine := by rw [← rel.length]; exact zz
  have hv := rel.val k
  refine call_meetsIn PySem.F.slot_dict_setdefault dd.typeIs PySem.F.entry_dict_setdefault (PySem.F.args_dict_setdefault_3 _ _ _) (kt_meets_setdefault (mixKind X.prog X.w) a (kV_is ry) hd fv) ⟨vs, dd, hz, fun w' hw => ?_, fun hn h' dd' hs => ?_⟩
  · cases l : valV kvs k with
    | none =>
      rw [l, hw] at hv
      exact hv.elim
    | some v =>
      rw [l, hw] at hv
      exact ⟨v, H3, I3.tok _, hv, q3 v l⟩
  · have hl : (putK kvs k z).length ≤ sizeLine := by have := length_putK kvs k z; omega
    have he : ∃ q, h'.get? a = some q := let ⟨q, _, _, hq, _⟩ := dd'; ⟨q, hq⟩
    have l : valV kvs k = none := by
      cases l : valV kvs k with
      | none => rfl
      | some v => rw [l, hn] at hv; exact hv.elim
    exact ⟨z, _, d_write I3 (by rw [ea]; exact True.intro) hs he (dk_new hl hd (rel.put k rz) dd'), rz, q4 l⟩
end
end L2
set_option Elab.async false
set_option linter.all false
set_option maxRecDepth 100000
set_option maxHeartbeats 4000000
namespace L2
open PySem PySem.Spec PyProof.Rows
section
variable {X : Cx}
theorem call_sum (hc : X.calm = true) : CallR X (.builtin "sum") (fun xs H Q => ∃ (p : Addr) (ns : List Int), xs = [.ref p] ∧ SqL X.K H p (ns.map V.int) ∧ Q (.int ns.sum) H) := by
  intro pins s σ H xs us Q I r h
  obtain ⟨p, ns, rfl, hq, q⟩ := h
  obtain ⟨u, rfl, ru⟩ := vals1 r
  cases ru
  obtain ⟨its, r', pl, hz⟩ := I.list hq
  have hi := intsAre_of r'
  obtain ⟨ys, hx⟩ := hi.allInts.items
  have hl' : s.heap.IsList p (intItems ys) := hx ▸ pl.isList
  refine sum_intListG (I.ok.hd hc) hl' fun h' tk t' hk => ?_
  have e1 : ns = ys.toList.map (·.1) := by
    rw [← nums_intItems, ← hx]
    exact (show numsOf its.toArray.toList = ns from hi.numsOf).symm
  have e2 : preSum (numAt ys) ys.size = ns.sum := by
    rw [preSum_eq, List.take_of_length_le (by simp), e1]
  rw [e2]
  exact ⟨.int _, H, I.kept hk, ⟨_, rfl⟩, q⟩
end
end L2
set_option Elab.async false
set_option linter.all false
set_option maxRecDepth 100000
set_option maxHeartbeats 4000000
namespace L2
open PySem PySem.Spec PyProof.Rows
section
variable {X : Cx}
theorem op_eqT_nil (hu : X.A.units < cLine) : OpR X (compareOp .Eq) (fun x y H Q => ∃ a b xs, x = .ref a ∧ y = .ref b ∧ SqT X.K H a xs ∧ SqT X.K H b [] ∧ Q (.bl xs.isEmpty) H) := by
  intro pins s σ H x y v u Q I rx ry h
  obtain ⟨a, b, xs, rfl, rfl, ha, hb, q⟩ := h
  cases rx
  cases ry
  obtain ⟨its, r1, p1, _⟩ := I.tuple ha
  obtain ⟨its2, r2, p2, _⟩ := I.tuple hb
  cases r2
  refine SeqAt.eq_tupleAt (e := fun _ => true) (show s.heap.IsTuple a its.toArray from p1) (show s.heap.IsTuple b ([] : List Value).toArray from p2) hu (fun j h1 h2 => by simp at h2) ?_
  have e : ((List.range (min its.toArray.size ([] : List Value).toArray.size)).all (fun _ => true) && its.toArray.size == ([] : List Value).toArray.size) = xs.isEmpty := by
    have hl := r1.length
    cases xs with
    | nil => cases r1; rfl
    | cons a r => cases r1; simp
  rw [e]
  exact ⟨.bl _, H, I, rfl, q⟩
end
end L2
set_option Elab.async false
set_option linter.all false
set_option maxRecDepth 100000
set_option maxHeartbeats 4000000
namespace L2
open PySem PySem.Spec PyProof.Rows
section
variable {prog : Program} {w : World} {A : Around} {E : Value → Shared → Prop} {s : Shared}
end
section
variable {X : Cx}
end
end L2
set_option Elab.async false
set_option linter.all false
set_option maxRecDepth 100000
set_option maxHeartbeats 4000000
namespace L2
open PySem PySem.Spec PyProof.Rows
section
variable {X : Cx}
end
end L2
set_option Elab.async false
set_option linter.all false
set_option maxRecDepth 100000
set_option maxHeartbeats 4000000
namespace RG
open PySem PySem.Spec PyProof.Rows
section
variable {prog : Program} {w : World} {A : Around} {E : Value → Shared → Prop} {s : Shared}
variable {I : Addr} {fp : List Addr} {n : Nat} {P : Nat → Value → Prop} {St : Nat → Heap → Prop} {T : String}
end
end RG
set_option Elab.async false
set_option linter.all false
set_option maxRecDepth 100000
set_option maxHeartbeats 4000000
namespace RG
open PySem PySem.Spec PyProof.Rows
section
variable {prog : Program} {w : World} {A : Around} {E : Value → Shared → Prop} {s : Shared}
end
end RG
namespace L2
open PySem PySem.Spec PyProof.Rows PySem.W RG
section
variable {X : Cx} {e : Expr} {te : TE} {pos pos2 pos3 p p2 p3 : Pos}
end
end L2
set_option Elab.async false
set_option linter.all false
set_option maxRecDepth 100000
set_option maxHeartbeats 4000000
namespace L2
open PySem PySem.Spec PyProof.Rows PySem.W RG
open AutoSeq1 (wpAny_loadPart')
section
variable {prog : Program} {w : World} {A : Around} {E : Value → Shared → Prop} {s : Shared}
end
section
variable {X : Cx} {e : Expr} {te : TE} {pos pos3 p p3 : Pos}
end
end L2
set_option Elab.async false
set_option linter.all false
set_option maxRecDepth 100000
set_option maxHeartbeats 4000000
namespace L2
open PySem PySem.Spec PyProof.Rows PySem.W
section
variable {X : Cx} {e : Expr} {te : TE} {pos pos3 p p3 : Pos}
end
end L2
set_option Elab.async false
set_option linter.all false
set_option maxRecDepth 100000
set_option maxHeartbeats 4000000
namespace L2
open PySem PySem.Spec PyProof.Rows PySem.W
section
variable {prog : Program} {w : World} {A : Around} {R : Result → Shared → Prop} {it best : Addr} {fp wr : List Addr} {n : Nat} {P : Nat → Value → Prop} {St : Nat → Heap → Prop}
end
section
variable {X : Cx}
end
end L2
set_option Elab.async false
set_option linter.all false
set_option maxRecDepth 100000
set_option maxHeartbeats 4000000
namespace L2
open PySem PySem.Spec PyProof.Rows
section
variable {X : Cx}
end
end L2
set_option Elab.async false
set_option linter.all false
set_option maxRecDepth 100000
set_option maxHeartbeats 4000000
namespace L2
open PySem PySem.Spec PyProof.Rows
def EqD (K : PySem.W.Frag) (H : Hp) : Nat → V → V → Prop
  | 0, x, y => x = y ∧ flatV x = true
  | n + 1, x, y => (x = y ∧ flatV x = true) ∨ ∃ a b xs ys, x = .ref a ∧ y = .ref b ∧ SqT K H a xs ∧ SqT K H b ys ∧ Paired (EqD K H n) xs ys
theorem val_at {xs : List V} {its : List Value} (r : Vals xs its) {j : Nat} {x : V} (h : xs[j]? = some x) (hj : j < its.toArray.size) : RelV x its.toArray[j] := by
  obtain ⟨w1, g1, rw1⟩ := r.get h
  have : its[j]? = some its.toArray[j] := by simp at hj; simp [hj]
  rw [g1] at this
  rw [← Option.some.inj this]
  exact rw1
theorem eqD_items {X : Cx} {pins : List (Addr × Obj)} {s : Shared} {σ : St} {H : Hp} {A : Around} {n : Nat} {xs ys : List V} {js js2 : List Value} (hP : Paired (EqD X.K H n) xs ys) (q1 : Vals xs js) (q2 : Vals ys js2)
    (ih : ∀ x y v u, EqD X.K H n x y → RelV x v → RelV y u → SeqAt.EqAt A s v u true) : ∀ j (j1 : j < js.toArray.size) (j2 : j < js2.toArray.size), SeqAt.EqAt A s js.toArray[j] js2.toArray[j] true := by
  intro j j1 j2
  have m1 := q1.length
  have m2 := q2.length
  have k1 : j < xs.length := by simp at j1; omega
  obtain ⟨y, hy, hd⟩ := Paired.get? hP (List.getElem?_eq_getElem k1)
  exact ih _ _ _ _ hd (val_at q1 (List.getElem?_eq_getElem k1) j1) (val_at q2 hy j2)
theorem eqD_at {X : Cx} {pins : List (Addr × Obj)} {s : Shared} {σ : St} {H : Hp} (I : Inv X pins σ H s) : ∀ (n : Nat) (A : Around), A.units + n < cLine → ∀ x y v u, EqD X.K H n x y → RelV x v → RelV y u → SeqAt.EqAt A s v u true
  | 0, A, hu, x, y, v, u, h, rx, ry => by
    obtain ⟨rfl, f⟩ := h
    have := eqAt_V (A := A) (s := s) rx ry f f
    rw [eqV_refl f] at this
    exact this
  | n + 1, A, hu, x, y, v, u, h, rx, ry => by
    rcases h with ⟨rfl, f⟩ | ⟨a, b, xs, ys, rfl, rfl, ha, hb, hP⟩
    · have := eqAt_V (A := A) (s := s) rx ry f f
      rw [eqV_refl f] at this
      exact this
    · cases rx
      cases ry
      by_cases e : a = b
      · subst e
        exact SeqAt.EqAt.same _
      · obtain ⟨js, q1, pt1, _⟩ := I.tuple ha
        obtain ⟨js2, q2, pt2, _⟩ := I.tuple hb
        have m1 := q1.length
        have m2 := q2.length
        have hl := Paired.length hP
        have R := SeqAt.RcAt.tuples (A := A) (e := fun _ => true) (show s.heap.IsTuple a js.toArray from pt1) (show s.heap.IsTuple b js2.toArray from pt2) (by omega) (eqD_items (X := X) (pins := pins) (σ := σ) hP q1 q2 (eqD_at I n A.in1 (by show A.units + 1 + n < cLine; omega)))
        have e2 : ((List.range (min js.toArray.size js2.toArray.size)).all (fun _ => true) && js.toArray.size == js2.toArray.size) = true := by
          have : js.toArray.size = js2.toArray.size := by simp; omega
          simp [this]
        rw [e2] at R
        exact SeqAt.EqAt.of_refs e R
theorem op_neD {X : Cx} (n : Nat) (hu : X.A.units + 1 + n < cLine) : OpR X (compareOp .NotEq) (fun x y H Q => ∃ a b xs ys, x = .ref a ∧ y = .ref b ∧ SqT X.K H a xs ∧ SqT X.K H b ys ∧ Paired (EqD X.K H n) xs ys ∧ Q (.bl false) H) := by
  intro pins s σ H x y v u Q I rx ry h
  obtain ⟨a, b, xs, ys, rfl, rfl, ha, hb, hP, q⟩ := h
  cases rx
  cases ry
  obtain ⟨its, r1, p1, _⟩ := I.tuple ha
  obtain ⟨its2, r2, p2, _⟩ := I.tuple hb
  have hl1 := r1.length
  have hl2 := r2.length
  have hl := Paired.length hP
  refine SeqAt.RcNeAt.tuples (e := fun _ => true) (show s.heap.IsTuple a its.toArray from p1) (show s.heap.IsTuple b its2.toArray from p2) (by omega) (eqD_items (X := X) (pins := pins) (σ := σ) hP r1 r2 (eqD_at I n X.A.in1 hu)) X.prog X.w _ _ ?_
  have e : (!((List.range (min its.toArray.size its2.toArray.size)).all (fun _ => true) && its.toArray.size == its2.toArray.size)) = false := by
    have : its.toArray.size = its2.toArray.size := by simp; omega
    simp [this]
  rw [e]
  exact ⟨.bl false, H, I, rfl, q⟩
end L2
set_option Elab.async false
set_option linter.all false
set_option maxRecDepth 100000
set_option maxHeartbeats 8000000
namespace K52
open PySem L2 PyProof.Rows
def top (i : Nat) : Stmt := PySem.Challenge.pw_bundlehouse_k52_groups_by_colours.main.body.getD i (.Pass ⟨0, 0, 0, 0⟩)
abbrev s_placed_rows : Stmt := top 1
theorem sc_placed_rows : FnScope ["parts", "found", "part", "rows", "number", "row"] ["parts"] (defScope s_placed_rows) := ⟨rfl, rfl, rfl, by decide +kernel, rfl, by decide +kernel, by decide +kernel⟩
abbrev s_brings : Stmt := top 2
theorem sc_brings : FnScope ["parts", "part"] ["parts", "part"] (defScope s_brings) := ⟨rfl, rfl, rfl, by decide +kernel, rfl, by decide +kernel, by decide +kernel⟩
abbrev s_named_parts : Stmt := top 3
theorem sc_named_parts : FnScope ["parts", "part", "kind", "found", "row"] ["parts", "part", "kind"] (defScope s_named_parts) := ⟨rfl, rfl, rfl, by decide +kernel, rfl, by decide +kernel, by decide +kernel⟩
abbrev s_order : Stmt := top 4
theorem sc_order : FnScope ["parts", "root", "begun", "waiting", "part"] ["parts", "root"] (defScope s_order) := ⟨rfl, rfl, rfl, by decide +kernel, rfl, by decide +kernel, by decide +kernel⟩
abbrev s_roots : Stmt := top 6
theorem sc_roots : FnScope ["parts", "beginnings", "asked"] ["parts", "beginnings"] (defScope s_roots) := ⟨rfl, rfl, rfl, by decide +kernel, rfl, by decide +kernel, by decide +kernel⟩
abbrev s_colours : Stmt := top 7
theorem sc_colours : FnScope ["parts", "some", "found", "part", "rows", "worth", "root"] ["parts", "some"] (defScope s_colours) := ⟨rfl, rfl, rfl, by decide +kernel, rfl, by decide +kernel, by decide +kernel⟩
abbrev s_groups : Stmt := top 8
theorem sc_groups : FnScope ["parts", "beginnings", "found", "members", "part", "rows"] ["parts", "beginnings"] (defScope s_groups) := ⟨rfl, rfl, rfl, by decide +kernel, rfl, by decide +kernel, by decide +kernel⟩
abbrev s_size_of : Stmt := top 9
theorem sc_size_of : FnScope ["parts", "names"] ["parts", "names"] (defScope s_size_of) := ⟨rfl, rfl, rfl, by decide +kernel, rfl, by decide +kernel, by decide +kernel⟩
abbrev s_size_of_part : Stmt := top 10
theorem sc_size_of_part : FnScope ["rows"] ["rows"] (defScope s_size_of_part) := ⟨rfl, rfl, rfl, by decide +kernel, rfl, by decide +kernel, by decide +kernel⟩
abbrev s_law_cell_at : Stmt := top 12
theorem sc_law_cell_at : FnScope ["_law_script", "_law_k"] ["_law_script", "_law_k"] (defScope s_law_cell_at) := ⟨rfl, rfl, rfl, by decide +kernel, rfl, by decide +kernel, by decide +kernel⟩
abbrev s_law_whole : Stmt := top 13
theorem sc_law_whole : FnScope ["_law_found"] ["_law_found"] (defScope s_law_whole) := ⟨rfl, rfl, rfl, by decide +kernel, rfl, by decide +kernel, by decide +kernel⟩
abbrev s_law_mixed : Stmt := top 14
theorem sc_law_mixed : FnScope ["_law_cell", "_law_k", "_law_prime"] ["_law_cell", "_law_k", "_law_prime"] (defScope s_law_mixed) := ⟨rfl, rfl, rfl, by decide +kernel, rfl, by decide +kernel, by decide +kernel⟩
abbrev s_law_names : Stmt := top 15
theorem sc_law_names : FnScope ["_law_cell", "_law_many", "_law_letters", "_law_signs", "_law_base", "_law_names_here", "_law_long", "_law_at", "_law_step", "_law_k", "_law_sign"] ["_law_cell", "_law_many"] (defScope s_law_names) := ⟨rfl, rfl, rfl, by decide +kernel, rfl, by decide +kernel, by decide +kernel⟩
abbrev s_law_other : Stmt := top 16
theorem sc_law_other : FnScope ["_law_here", "_law_many", "_law_mix", "_law_mode"] ["_law_here", "_law_many", "_law_mix", "_law_mode"] (defScope s_law_other) := ⟨rfl, rfl, rfl, by decide +kernel, rfl, by decide +kernel, by decide +kernel⟩
abbrev s_law_row : Stmt := top 17
theorem sc_law_row : FnScope ["_law_kind", "_law_mix", "_law_other_here", "_law_mine", "_law_given", "_law_others", "_law_own"] ["_law_kind", "_law_mix", "_law_other_here", "_law_mine", "_law_given", "_law_others"] (defScope s_law_row) := ⟨rfl, rfl, rfl, by decide +kernel, rfl, by decide +kernel, by decide +kernel⟩
abbrev s_law_parts : Stmt := top 18
theorem sc_law_parts : FnScope ["_law_script", "_law_first", "_law_names_here", "_law_mode", "_law_many", "_law_rows", "_law_mine", "_law_given", "_law_k", "_law_mix", "_law_here", "_law_at", "_law_other_here", "_law_kind"] ["_law_script", "_law_first", "_law_names_here", "_law_mode"] (defScope s_law_parts) := ⟨rfl, rfl, rfl, by decide +kernel, rfl, by decide +kernel, by decide +kernel⟩
abbrev s_law_some : Stmt := top 19
theorem sc_law_some : FnScope ["_law_names_here", "_law_cell", "_law_most", "_law_left", "_law_found", "_law_k"] ["_law_names_here", "_law_cell", "_law_most"] (defScope s_law_some) := ⟨rfl, rfl, rfl, by decide +kernel, rfl, by decide +kernel, by decide +kernel⟩
abbrev s_law_come : Stmt := top 20
theorem sc_law_come : FnScope ["_law_parts_here", "_law_root", "_law_rows_by", "_law_found", "_law_at", "_law_row_here"] ["_law_parts_here", "_law_root"] (defScope s_law_come) := ⟨rfl, rfl, rfl, by decide +kernel, rfl, by decide +kernel, by decide +kernel⟩
abbrev s_law_bits : Stmt := top 21
theorem sc_law_bits : FnScope ["_law_come_here", "_law_name", "_law_found", "_law_bit", "_law_way"] ["_law_come_here", "_law_name"] (defScope s_law_bits) := ⟨rfl, rfl, rfl, by decide +kernel, rfl, by decide +kernel, by decide +kernel⟩
abbrev s_law_group : Stmt := top 22
theorem sc_law_group : FnScope ["_law_found"] ["_law_found"] (defScope s_law_group) := ⟨rfl, rfl, rfl, by decide +kernel, rfl, by decide +kernel, by decide +kernel⟩
abbrev s_law : Stmt := top 23
theorem sc_law : FnScope ["_law_script", "_law_many", "_law_names_here", "_law_parts_here", "_law_begun", "_law_asked", "_law_name", "_law_rows", "_law_found", "_law_come_here", "_law_shades", "_law_seen", "_law_due", "_law_bits_here", "_law_rows_by", "_law_group_here", "_law_pair", "_law_size"] ["_law_script"] (defScope s_law) := ⟨rfl, rfl, rfl, by decide +kernel, rfl, by decide +kernel, by decide +kernel⟩
structure Txt (K : PySem.W.Frag) (mg : Str → Option Value) : Prop where
  n_len : mg "len" = none
  n_range : mg "range" = none
  n_str : mg "str" = none
  n_tuple : mg "tuple" = none
  n_dict : mg "dict" = none
  n_list : mg "list" = none
  n_reversed : mg "reversed" = none
  n_isinstance : mg "isinstance" = none
  n_int : mg "int" = none
  n_bool : mg "bool" = none
  n_min : mg "min" = none
  n_zip : mg "zip" = none
  n_enumerate : mg "enumerate" = none
  n_sum : mg "sum" = none
  d_placed_rows : HasDef K mg "placed_rows" s_placed_rows
  d_brings : HasDef K mg "brings" s_brings
  d_named_parts : HasDef K mg "named_parts" s_named_parts
  d_order : HasDef K mg "order" s_order
  d_roots : HasDef K mg "roots" s_roots
  d_colours : HasDef K mg "colours" s_colours
  d_groups : HasDef K mg "groups" s_groups
  d_size_of : HasDef K mg "size_of" s_size_of
  d_size_of_part : HasDef K mg "size_of_part" s_size_of_part
  d_law_cell_at : HasDef K mg "_law_cell_at" s_law_cell_at
  d_law_mixed : HasDef K mg "_law_mixed" s_law_mixed
  d_law_names : HasDef K mg "_law_names" s_law_names
  d_law_other : HasDef K mg "_law_other" s_law_other
  d_law_row : HasDef K mg "_law_row" s_law_row
  d_law_parts : HasDef K mg "_law_parts" s_law_parts
  d_law_some : HasDef K mg "_law_some" s_law_some
  d_law_come : HasDef K mg "_law_come" s_law_come
  d_law_whole : HasDef K mg "_law_whole" s_law_whole
  d_law_bits : HasDef K mg "_law_bits" s_law_bits
  d_law_group : HasDef K mg "_law_group" s_law_group
def spNamedParts : Sp := fun vs H Q _ => ∃ (a : Addr) (ps : List Pt) (n k : Str) (rs : List Rw), vs = [.ref a, .str n, .str k] ∧ (k = "bring" ∨ k = "ask") ∧ PartsF H a ps ∧ (ps.map (·.1)).Nodup ∧ (n, rs) ∈ ps ∧ ps.length ≤ 1000 ∧ rs.length ≤ 900 ∧
  ∀ (p : Addr) (H' : Hp), Same H H' → H' p = some (.tup ((namedOf k rs).map V.str)) → Q (.ref p) H'
def spNames (k : Str) : Sp := fun vs H Q _ => ∃ (a : Addr) (ps : List Pt) (n : Str) (rs : List Rw), vs = [.ref a, .str n] ∧ PartsF H a ps ∧ (ps.map (·.1)).Nodup ∧ (n, rs) ∈ ps ∧ ps.length ≤ 1000 ∧ rs.length ≤ 900 ∧
  ∀ (p : Addr) (H' : Hp), Same H H' → H' p = some (.tup ((namedOf k rs).map V.str)) → Q (.ref p) H'
theorem parts_pairs {K : PySem.W.Frag} {H : Hp} : ∀ {vs : List V} {ps : List Pt}, Paired (PartAt H) vs ps → ∃ qs : List (Str × V), Paired (fun v (p : Str × V) => ∃ t, v = .ref t ∧ SqT K H t [.str p.1, p.2]) vs qs ∧ qs.map (·.1) = ps.map (·.1) ∧ ∀ n rs, (n, rs) ∈ ps → ∃ u ws, (n, V.ref u) ∈ qs ∧ H u = some (.tup ws) ∧ RowsAt H ws rs
  | _, _, .nil => ⟨[], .nil, rfl, fun n rs h => by simp at h⟩
  | _, _, .cons (b := p) ⟨t, u, ws, e, h1, h2, h3⟩ hr => by
    obtain ⟨qs, g1, g2, g3⟩ := parts_pairs (K := K) hr
    refine ⟨(p.1, .ref u) :: qs, .cons ⟨t, e, SqT.of h1⟩ g1, by rw [List.map_cons, List.map_cons, g2], fun n rs h => ?_⟩
    rcases List.mem_cons.mp h with z | z
    · rw [← z] at h1 h3 ⊢
      exact ⟨u, ws, List.mem_cons_self, h2, h3⟩
    · obtain ⟨u', ws', k1, k2⟩ := g3 n rs z
      exact ⟨u', ws', List.mem_cons_of_mem _ k1, k2⟩
theorem Tups.dK {H : Hp} {l : Addr} {kvs kvs' : List (Key × V)} (h : H l = some (.dK kvs)) : Tups H (upd H l (.dK kvs')) := fun b zs q => by
  rw [upd_ne (ne_of q h (by intro z; cases z))]
  exact q
section
variable {P : Program} {w : World} {K : PySem.W.Frag} {mg : Str → Option Value} {base : Heap}
theorem ok_named_parts (T : Txt K mg) : L2.Cl P w K mg base 1 "named_parts" ["parts", "part", "kind"] spNamedParts := by
  refine Cl.of T.d_named_parts sc_named_parts (fun vs H Q E h => ?_) (fun _ _ _ _ _ _ us hl => match us, hl with | [_, _, _], _ => rfl) (fun f cdv A outer s H vs Q E hr h => ?_)
  · obtain ⟨a, ps, n, k, rs, rfl, _⟩ := h
    rfl
  · obtain ⟨a, ps, n, k, rs, rfl, hk, ⟨o, vs, ha, ho, hps⟩, hnd, hmem, hl1, hl2, q⟩ := h
    have hu := hu_of hr
    refine ⟨_, (pss_cons (ps_set (i := 3) sc_named_parts.nd rfl (Or.inl rfl) pe_dnewK)
      (pss_cons (ps_for PassesOwn.never rfl (pi_tup (pe_dget hu (pe_callTy (call_dictT rfl) (by rfl) T.n_dict boot_dict (pa_cons (pv 0) pa_nil)) (pv 1) (fun _ _ => rfl))) (pg_name (i := 4) sc_named_parts.nd rfl (Or.inl rfl))
        (pss_one (ps_if (pt_cmpR op_eq (pe_ix ix_tup (pv 4) pe_int (fun _ _ => rfl)) (pv 2) (nomark _))
          (pss_one (ps_dput hu (pv 3) (pe_ix ix_tup (pv 4) pe_int (fun _ _ => rfl)) pe_bl rfl)) pss_nil)))
      (pss_one (ps_ret (pe_callTy (call_tupleD rfl) (by rfl) T.n_tuple boot_tuple (pa_cons (pv 3) pa_nil)))))), ?_⟩
    intro d gd
    have s1 : Same H (upd H d (.dK [])) := (Same.refl H).new gd
    obtain ⟨qs, g1, g2, g3⟩ := parts_pairs (K := K) (Paired.mapP hps fun _ _ z => z.mono s1.tups)
    obtain ⟨u, ws, k1, k2, k3⟩ := g3 n rs hmem
    have hql : qs.length = ps.length := by
      have := congrArg List.length g2
      simpa using this
    refine ⟨_, rfl, a, o, vs, qs, rfl, s1 _ _ ha, ho, g1, (by omega), fun e ge => ?_⟩
    have s2 := s1.new (o := .dK (foldP qs [])) ge
    refine ⟨_, rfl, e, .ref u, rfl, ?_, ?_⟩
    · have hg := DGet.k (k := Sum.inr n) (upd_same (H := upd H d (.dK [])) (a := e) (o := .dK (foldP qs [])))
      rw [foldP_get qs [] n (.ref u) (by rw [g2]; exact hnd) (.inl k1)] at hg
      exact hg
    · have s2 : Same H (upd (upd H d (.dK [])) e (.dK (foldP qs []))) := s1.new ge
      have hde : d ≠ e := ne_of_none (upd_same (H := H) (a := d) (o := .dK [])) ge
      have hwl : ws.length = rs.length := Paired.length k3
      refine ⟨u, rfl, ⟨_, SqT.of (upd_keep k2 ge)⟩, for_tup (K := K) (a := u) (xs := ws) (fun i σ H2 => ∃ v4 : Option V, σ = [some (.ref a), some (.str n), some (.str k), some (.ref d), v4] ∧ Same H H2 ∧ H2 d = some (.dK (setD (namedOf k (rs.take i)))) ∧ H2 u = some (.tup ws) ∧ RowsAt H2 ws rs)
        ⟨none, rfl, s2, ?_, upd_keep k2 ge, k3.mono (Tups.new ge)⟩ (fun i σ H2 _ ⟨_, _, _, _, e2, _⟩ => SqT.of e2) ?_ ?_⟩
      · rw [upd_ne hde, upd_same]; rfl
      · rintro i y σ H2 hx ⟨v4, rfl, s3, hd3, hu3, hr3⟩
        have hi : i < ws.length := (List.getElem?_eq_some_iff.mp hx).1
        obtain ⟨rw, hrw, r, er, hra⟩ := Paired.get? hr3 hx
        subst er
        have hlt : (namedOf k (rs.take i)).length ≤ 900 := by
          have h1 := namedOf_len k (rs.take i) []
          have h2 : (rs.take i).length ≤ rs.length := List.length_take_le' ..
          unfold namedOf
          simp only [List.length_nil] at h1
          omega
        have htk : rs.take (i + 1) = rs.take i ++ [rw] := take_succ_get hrw
        rcases hra.named hk with ⟨e1, p, rest, e2, h2⟩ | ⟨e1, e2⟩
        · have z0 : atI (V.str k :: V.str p :: rest) 0 = some (.str k) := atI_nat (j := 0) rfl
          have z1 : atI (V.str k :: V.str p :: rest) 1 = some (.str p) := atI_nat (j := 1) rfl
          refine ⟨_, rfl, r, _, _, _, rfl, rfl, SqT.of h2, z0, _, rfl, rfl, _, rfl, iteSE ?_⟩
          refine ⟨_, rfl, _, rfl, r, _, _, _, rfl, rfl, SqT.of h2, z1, d, _, rfl, DPut.k (k := Sum.inr p) hd3 (small1000 (by rw [setD_len]; omega)), ?_⟩
          refine ⟨_, rfl, s3.put gd, ?_, ?_, hr3.mono (Tups.dK hd3)⟩
          · rw [upd_same, setD_put, htk, namedOf_snoc]
            unfold stepN
            rw [e2]
          · exact Tups.dK hd3 _ _ hu3
        · obtain ⟨x, rest, h2⟩ := hra.kind
          have z0 : atI (V.str (kindS rw) :: x :: rest) 0 = some (.str (kindS rw)) := atI_nat (j := 0) rfl
          refine ⟨_, rfl, r, _, _, _, rfl, rfl, SqT.of h2, z0, _, rfl, rfl, _, rfl, iteSN e1 ?_⟩
          refine ⟨_, rfl, s3, ?_, hu3, hr3⟩
          rw [htk, namedOf_snoc]
          unfold stepN
          rw [e2]
          exact hd3
      · rintro σ H2 ⟨v4, rfl, s3, hd3, hu3, hr3⟩
        rw [hwl, List.take_length] at hd3
        refine ⟨_, rfl, d, _, rfl, .inl hd3, fun t gt => ?_⟩
        refine q t _ (s3.new gt) ?_
        rw [upd_same, setD_keys]
theorem ok_brings (T : Txt K mg) : L2.Cl P w K mg base 2 "brings" ["parts", "part"] (spNames "bring") := by
  have C_named_parts := ok_named_parts (P := P) (w := w) (base := base) T
  refine Cl.of T.d_brings sc_brings (fun vs H Q E h => ?_) (fun _ _ _ _ _ _ us hl => match us, hl with | [_, _], _ => rfl) (fun f cdv A outer s H vs Q E hr h => ?_)
  · obtain ⟨a, ps, n, rs, rfl, _⟩ := h
    rfl
  · obtain ⟨a, ps, n, rs, rfl, h1, h2, h3, h4, h5, q⟩ := h
    refine ⟨_, (pss_one (ps_ret (pe_fn C_named_parts hr (by rfl) (pa_cons (pv 0) (pa_cons (pv 1) (pa_cons pe_str pa_nil)))))), ?_⟩
    exact ⟨_, rfl, _, rfl, a, ps, n, "bring", rs, rfl, .inl rfl, h1, h2, h3, h4, h5, q⟩
theorem mt_joinK {X : Cx} {K : PySem.W.Frag} (h : X.K = K) : MtR X "str.join" (fun x vs H Q => ∃ sep p ys, x = .str sep ∧ vs = [.ref p] ∧ (SqT K H p (ys.map V.str) ∨ SqL K H p (ys.map V.str)) ∧ sep.length ≤ 16 ∧ (ys.map (·.length)).sum + ys.length ≤ 1048576 ∧ Q (.str (Str.join sep ys)) H) := h ▸ mt_join
theorem pe_bmK {X : Cx} {K : PySem.W.Frag} (hK : X.K = K) {o e : Expr} {es : List Expr} {to : TE} {t : TA} {name : Str} {apos cpos : Pos} {T id : String} {r : V → List V → Hp → VK → Prop} (pa : PlainAttrs T) (slot : Slot T name id) (hty : typeOf (.builtin id) = pure (.type "method_descriptor")) (hm : MtR X id r) (ho : PE X o to) (ha : PA X (e :: es) t)
    (hbase : attributeBase o name X.env (eval o X.env) = eval o X.env := by rfl)
    (hfew : ((backTo cpos (starEach (e :: es) X.env)).all (fun x => !x.1) && (backToKw cpos (keywordEach [] X.env)).all (fun x => x.1.isSome) && decide ((e :: es).length + ([] : List Keyword).length + (if ([] : List Keyword).isEmpty then 0 else 1) < 30)) = true := by rfl)
    (hline : (apos.endLine == cpos.line) = true := by rfl) (hs : starEach (e :: es) X.env = (false, eval e X.env) :: starEach es X.env := by rfl) (hplain : (backTo cpos (starEach es X.env)).any (·.1) = false := by rfl) :
    PE X (.Call (.Attribute o name apos) (e :: es) [] cpos) (tBM K T r to t) := by
  subst hK
  exact pe_bm pa slot hty hm ho ha hbase hfew hline hs hplain
theorem tand_pure {t u : TT} {σ : L2.St} {H : Hp} {a b : Bool} (ht : ∀ Q : Bool → Hp → Prop, Q a H → t σ H Q) (hu : ∀ Q : Bool → Hp → Prop, Q b H → u σ H Q) : ∀ Q : Bool → Hp → Prop, Q (a && b) H → tAnd t u σ H Q := fun Q h => by
  refine ht _ ?_
  cases a with
  | true => exact iteT (hu _ h)
  | false => exact iteF h
theorem tor_pure {t u : TT} {σ : L2.St} {H : Hp} {a b : Bool} (ht : ∀ Q : Bool → Hp → Prop, Q a H → t σ H Q) (hu : ∀ Q : Bool → Hp → Prop, Q b H → u σ H Q) : ∀ Q : Bool → Hp → Prop, Q (a || b) H → tOr t u σ H Q := fun Q h => by
  refine ht _ ?_
  cases a with
  | true => exact iteT h
  | false => exact iteF (hu _ h)
theorem g_if_p {t : TT} {A B R : TS} {D : Ends} {r : VK} {b k : L2.St → Hp → Prop} {i : Nat} {v : V} {σ : L2.St} {H : Hp} {a : Bool} (ht : ∀ Q : Bool → Hp → Prop, Q a H → t (σ.set i (some v)) H Q) (h : if a = true then A { D with nx := R D } (σ.set i (some v)) H else B { D with nx := R D } (σ.set i (some v)) H) : gName i v σ H (Ends.nx ⟨tSeq (tIfS t A B) R D, r, b, k⟩) := ht _ h
theorem s_if_p {t : TT} {A B R : TS} {D : Ends} {σ : L2.St} {H : Hp} {a : Bool} (ht : ∀ Q : Bool → Hp → Prop, Q a H → t σ H Q) (h : if a = true then A { D with nx := R D } σ H else B { D with nx := R D } σ H) : tSeq (tIfS t A B) R D σ H := ht _ h
def ch (c : Nat) : Str := ⟨#[c]⟩
def chs (l : List Nat) : List V := (l.map ch).map V.str
theorem chs_snoc (l : List Nat) (c : Nat) : chs (l ++ [c]) = chs l ++ [.str (ch c)] := by unfold chs; simp
theorem chs_len (l : List Nat) : (chs l).length = l.length := by unfold chs; simp
theorem chs_take (l : List Nat) (k : Nat) : (chs l).take k = chs (l.take k) := by unfold chs; rw [List.map_take, List.map_take]
theorem chs_drop (l : List Nat) (k : Nat) : (chs l).drop k = chs (l.drop k) := by unfold chs; rw [List.map_drop, List.map_drop]
theorem ch_sum : ∀ l : List Nat, ((l.map ch).map (·.length)).sum = l.length
  | [] => rfl
  | c :: r => by
    have ih := ch_sum r
    simp only [List.map_cons, List.sum_cons, List.length_cons]
    rw [ih]
    show 1 + r.length = _
    omega
theorem no_signs : ("" : Str).cps.toList = [] := by decide +kernel
theorem join0 : ∀ l : List Nat, (Str.join "" (l.map ch)).cps.toList = l
  | [] => by decide +kernel
  | [c] => rfl
  | c :: d :: r => by
    have ih := join0 (d :: r)
    show (ch c ++ "" ++ Str.join "" ((d :: r).map ch)).cps.toList = _
    rw [cps_app, cps_app, ih, no_signs]
    rfl
def lS (l : List Nat) : Str := ⟨l.toArray⟩
theorem lS_cps (l : List Nat) : (lS l).cps.toList = l := by unfold lS; simp
theorem join0S (l : List Nat) : Str.join "" (l.map ch) = lS l := str_ext (by rw [join0, lS_cps])
theorem lS_inj {a b : List Nat} (h : lS a = lS b) : a = b := by
  have := congrArg (fun x : Str => x.cps.toList) h
  simpa [lS_cps] using this
theorem lS_app (a b : List Nat) : lS a ++ lS b = lS (a ++ b) := str_ext (by rw [cps_app, lS_cps, lS_cps, lS_cps])
theorem ch_lS (c : Nat) : ch c = lS [c] := rfl
theorem lS_len (a : List Nat) : (lS a).length = a.length := by unfold lS Str.length; simp
def mixM (c k p : Int) : Int := (c * 48271 + 7919 * k * k + 101 * k) % p
def baseN (c : Int) (i : Nat) : List Nat := (List.range i).map fun (j : Nat) => letAt (mixM c (j : Int) 65519 % 26)
theorem baseN_succ (c : Int) (i : Nat) : baseN c (i + 1) = baseN c i ++ [letAt (mixM c (i : Int) 65519 % 26)] := by unfold baseN; rw [List.range_succ, List.map_append]; rfl
theorem baseN_len (c : Int) (i : Nat) : (baseN c i).length = i := by unfold baseN; simp
def nmP (c : Int) (k : Nat) : Str := lS ((baseN c 8).take (k + 1))
def nmA (b : List Nat) (at' long : Nat) (c : Nat) : Str := lS (b.take at' ++ [c] ++ (b.drop (at' + 1)).take (long - (at' + 1)))
theorem nmP_inj {c : Int} {k l : Nat} (hk : k < 8) (hl : l < 8) (h : nmP c k = nmP c l) : k = l := by
  have := congrArg List.length (lS_inj h)
  rw [List.length_take, List.length_take, baseN_len] at this
  omega
theorem nmA_inj {b : List Nat} {at' long c d : Nat} (h : nmA b at' long c = nmA b at' long d) : c = d := by
  have h1 := lS_inj h
  rw [List.append_assoc, List.append_assoc] at h1
  have h2 := List.append_cancel_left h1
  simpa using h2
def sg36 : Str := "abcdefghijklmnopqrstuvwxyz0123456789"
theorem sg36_len : sg36.cps.toList.length = 36 := by decide +kernel
theorem sg36_eq : lets ++ ("0123456789" : Str) = sg36 := by decide +kernel
theorem sgAt_inj0 : ∀ i : Nat, i < 36 → ∀ j : Nat, j < 36 → sg36.cps.toList.getD i 0 = sg36.cps.toList.getD j 0 → i = j := by decide +kernel
theorem sgAt_inj {i j : Int} (hi : 0 ≤ i) (hi2 : i < 36) (hj : 0 ≤ j) (hj2 : j < 36) (h : sgAt i = sgAt j) : i = j := by
  have := sgAt_inj0 i.toNat (by omega) j.toNat (by omega) h
  omega
def stepL : List Int := [1, 5, 7, 11, 17, 25]
def stepM (c : Int) : Int := stepL.getD (mixM c 9 65521 % 6).toNat 0
theorem stepM_in (c : Int) : stepM c = 1 ∨ stepM c = 5 ∨ stepM c = 7 ∨ stepM c = 11 ∨ stepM c = 17 ∨ stepM c = 25 := by
  unfold stepM
  generalize hz : (mixM c 9 65521 % 6).toNat = z
  have : z < 6 := by omega
  match z, this with
  | 0, _ => decide
  | 1, _ => decide
  | 2, _ => decide
  | 3, _ => decide
  | 4, _ => decide
  | 5, _ => decide
def sgn (c : Int) (at' : Nat) (k : Nat) : Nat := if 0 < at' then sgAt ((c / 64 + (k : Int) * stepM c) % 36) else letAt ((c / 64 + (k : Int) * stepM c) % 26)
theorem sgn_inj {c : Int} {at' k l : Nat} (hk : k < 24) (hl : l < 24) (h : sgn c at' k = sgn c at' l) : k = l := by
  unfold sgn at h
  have hs := stepM_in c
  generalize stepM c = s at h hs
  generalize c / 64 = x at h
  by_cases ha : 0 < at'
  · rw [if_pos ha, if_pos ha] at h
    have := sgAt_inj (by omega) (by omega) (by omega) (by omega) h
    rcases hs with rfl | rfl | rfl | rfl | rfl | rfl <;> omega
  · rw [if_neg ha, if_neg ha] at h
    have := letAt_inj (by omega) (by omega) (by omega) (by omega) h
    rcases hs with rfl | rfl | rfl | rfl | rfl | rfl <;> omega
theorem nodup_range_map {f : Nat → Str} {n : Nat} (h : ∀ k l, k < n → l < n → f k = f l → k = l) : ((List.range n).map f).Nodup := by
  rw [List.nodup_iff_pairwise_ne, List.pairwise_map]
  refine List.Pairwise.imp_of_mem ?_ (List.nodup_range (n := n))
  intro a b ha hb hne e
  exact hne (h a b (List.mem_range.mp ha) (List.mem_range.mp hb) e)
theorem nodup_rev {l : List Str} (h : l.Nodup) : l.reverse.Nodup := List.pairwise_reverse.mpr (h.imp fun e => Ne.symm e)
theorem range_map_succ {α : Type} (f : Nat → α) (n : Nat) : (List.range (n + 1)).map f = (List.range n).map f ++ [f n] := by rw [List.range_succ, List.map_append]; rfl
theorem cut_take {xs : List V} {k : Nat} (h : k ≤ xs.length) : cutV xs none (some ((k : Nat) : Int)) = xs.take k := by
  unfold cutV
  rw [HT.sIx_none, HT.sIx_nat, Nat.min_eq_left h, List.drop_zero, Nat.sub_zero]
theorem cut_mid (xs : List V) (i j : Nat) (hij : i ≤ j) (hj : j ≤ xs.length) : cutV xs (some (i : Int)) (some (j : Int)) = (xs.drop i).take (j - i) := by
  unfold cutV
  rw [HT.sIx_nat, HT.sIx_nat, Nat.min_eq_left hj, Nat.min_eq_left (Nat.le_trans hij hj)]
def spCell (K : PySem.W.Frag) : Sp := fun vs H Q _ => ∃ (a : Addr) (ns : List Int) (k : Int), vs = [.ref a, .int k] ∧ SqL K H a (ns.map V.int) ∧ 0 ≤ k ∧ ∀ c : Int, Q (.int c) H
theorem ok_cell (T : Txt K mg) : L2.Cl P w K mg base 1 "_law_cell_at" ["_law_script", "_law_k"] (spCell K) := by
  refine Cl.of T.d_law_cell_at sc_law_cell_at (fun vs H Q E h => ?_) (fun _ _ _ _ _ _ us hl => match us, hl with | [_, _], _ => rfl) (fun f cdv A outer s H vs Q E hr h => ?_)
  · obtain ⟨a, ns, k, rfl, _⟩ := h
    rfl
  · obtain ⟨a, ns, k, rfl, hS, hk, q⟩ := h
    refine ⟨_, (pss_cons (ps_if (pt_cmpR op_lt (pv 1) (pe_callB call_len_seq (by rfl) T.n_len PySem.boot_len (pa_cons (pv 0) pa_nil)) (nomark _))
        (pss_one (ps_ret (pe_ix ix_list (pv 0) (pv 1) (fun _ _ => rfl)))) pss_nil)
      (pss_one (ps_ret pe_int))), ?_⟩
    refine ⟨_, rfl, _, rfl, a, _, rfl, .inl hS, _, _, rfl, rfl, _, rfl, ?_⟩
    refine ite2 (fun hlt => ?_) (fun hlt => ?_)
    · have hlt' : k < (ns.length : Int) := by simpa using hlt
      refine ⟨_, rfl, _, rfl, a, _, _, _, rfl, rfl, hS, atI_map V.int ns 0 hk hlt', ?_⟩
      exact q _
    · exact q 0
def spMixed : Sp := fun vs H Q _ => ∃ c k p : Int, vs = [.int c, .int k, .int p] ∧ 0 ≤ k ∧ k < 1000 ∧ 0 < p ∧ Q (.int (mixM c k p)) H
theorem ok_mixed (T : Txt K mg) : L2.Cl P w K mg base 1 "_law_mixed" ["_law_cell", "_law_k", "_law_prime"] spMixed := by
  refine Cl.of T.d_law_mixed sc_law_mixed (fun vs H Q E h => ?_) (fun _ _ _ _ _ _ us hl => match us, hl with | [_, _, _], _ => rfl) (fun f cdv A outer s H vs Q E hr h => ?_)
  · obtain ⟨c, k, p, rfl, _⟩ := h
    rfl
  · obtain ⟨c, k, p, rfl, hk, hk2, hp, q⟩ := h
    refine ⟨_, (pss_one (ps_ret (pe_op op_mod (pe_op op_add (pe_op op_add (pe_op op_mul (pv 0) pe_int) (pe_op op_mul (pe_op op_mul pe_int (pv 1)) (pv 1))) (pe_op op_mul pe_int (pv 1))) (pv 2)))), ?_⟩
    exact ⟨_, rfl, _, _, rfl, rfl, .inr ⟨by decide, by decide⟩, _, rfl, _, _, rfl, rfl, .inl ⟨by decide, by decide⟩, _, rfl, _, _, rfl, rfl, .inr ⟨by omega, by omega⟩, _, _, rfl, rfl, _, rfl, _, _, rfl, rfl, .inl ⟨by decide, by decide⟩, _, _, rfl, rfl, _, rfl, _, _, rfl, rfl, hp, q⟩
def spNms : Sp := fun vs H Q _ => ∃ (c n : Int), vs = [.int c, .int n] ∧ 1 ≤ n ∧ n ≤ 24 ∧ ∀ (l : Addr) (ns : List Str) (H' : Hp), Same H H' → H l = none → H' l = some (.lst (ns.map V.str)) → ns.length = n.toNat → ns.Nodup → Q (.ref l) H'
theorem ok_names (T : Txt K mg) : L2.Cl P w K mg base 2 "_law_names" ["_law_cell", "_law_many"] spNms := by
  have C_law_mixed := ok_mixed (P := P) (w := w) (base := base) T
  refine Cl.of T.d_law_names sc_law_names (fun vs H Q E h => ?_) (fun _ _ _ _ _ _ us hl => match us, hl with | [_, _], _ => rfl) (fun f cdv A outer s H vs Q E hr h => ?_)
  · obtain ⟨c, n, rfl, _⟩ := h
    rfl
  · obtain ⟨c, n, rfl, hn1, hn2, q⟩ := h
    refine ⟨_, (pss_cons (ps_set (i := 2) sc_law_names.nd rfl (Or.inr rfl) pe_str)
      (pss_cons (ps_set (i := 3) sc_law_names.nd rfl (Or.inl rfl) (pe_op op_add_str (pv 2) pe_str))
      (pss_cons (ps_set (i := 4) sc_law_names.nd rfl (Or.inr rfl) (pe_comp (M := ["_law_k", "_law_letters", "_law_cell"]) (ρ := [none, some 2, some 0]) (defScope s_law_names) ["_law_cell", "_law_many", "_law_letters", "_law_signs", "_law_base", "_law_names_here", "_law_long", "_law_at", "_law_step", "_law_k", "_law_sign"] ⟨rfl, by decide +kernel, by decide +kernel, by decide +kernel, rfl, by decide +kernel, by decide +kernel⟩ (pi_range1 (by rfl) T.n_range (pa_cons pe_int pa_nil)) (fun _ _ _ _ _ _ => (pg_name (i := 0) (show (["_law_k", "_law_letters", "_law_cell"] : List Str).Nodup by decide +kernel) rfl (Or.inl rfl))) (fun _ _ _ _ _ _ => pts_nil) (fun _ _ _ _ _ _ => (pe_ix ix_str (pv 1) (pe_op op_mod (pe_fn C_law_mixed hr (by rfl) (pa_cons (pv 2) (pa_cons (pv 0) (pa_cons pe_int pa_nil)))) pe_int) (fun _ _ => rfl)))))
      (pss_cons (ps_if (PW.pt (pw_and (pt_cmpR op_eq (pe_op op_mod (pe_op op_fdiv (pv 0) pe_int) pe_int) pe_int (nomark _)) (pw_and1 (pt_cmpR op_lt (pv 1) pe_int (nomark _)))))
        (pss_one (ps_setC (j := 5) (M := ["_law_k", "_law_base"]) (ρ := [none, some 4]) (defScope s_law_names) ["_law_cell", "_law_many", "_law_letters", "_law_signs", "_law_base", "_law_names_here", "_law_long", "_law_at", "_law_step", "_law_k", "_law_sign"] ⟨rfl, by decide +kernel, by decide +kernel, by decide +kernel, rfl, by decide +kernel, by decide +kernel⟩ sc_law_names.nd rfl (Or.inl rfl) (pi_range1 (by rfl) T.n_range (pa_cons (pv 1) pa_nil)) (fun _ _ _ _ _ _ => (pg_name (i := 0) (show (["_law_k", "_law_base"] : List Str).Nodup by decide +kernel) rfl (Or.inl rfl))) (fun _ _ _ _ _ _ => pts_nil) (fun _ _ _ _ _ _ => (pe_bmK (K := K) rfl PySem.F.plainAttrs_str PySem.F.slot_str_join PySem.F.type_str_join (mt_joinK (K := K) rfl) pe_str (pa_cons (pe_slice (sl_listK (K := K) rfl) (pv 1) po_none (po_some (pe_op op_add (pv 0) pe_int))) pa_nil))))) (pss_cons (ps_set (i := 6) sc_law_names.nd rfl (Or.inl rfl) (pe_op op_add pe_int (pe_op op_mod (pv 0) pe_int)))
        (pss_cons (ps_set (i := 7) sc_law_names.nd rfl (Or.inl rfl) (pe_op op_mod (pe_op op_fdiv (pv 0) pe_int) (pv 6)))
        (pss_cons (ps_set (i := 8) sc_law_names.nd rfl (Or.inl rfl) (pe_ix ix_list (pe_lst (pa_cons pe_int (pa_cons pe_int (pa_cons pe_int (pa_cons pe_int (pa_cons pe_int (pa_cons pe_int pa_nil))))))) (pe_op op_mod (pe_fn C_law_mixed hr (by rfl) (pa_cons (pv 0) (pa_cons pe_int (pa_cons pe_int pa_nil)))) pe_int) (fun _ _ => rfl)))
        (pss_cons (ps_set (i := 5) sc_law_names.nd rfl (Or.inl rfl) (pe_lst pa_nil))
        (pss_one (ps_for PassesOwn.never rfl (pi_range1 (by rfl) T.n_range (pa_cons (pv 1) pa_nil)) (pg_name (i := 9) sc_law_names.nd rfl (Or.inl rfl))
          (pss_cons (ps_set (i := 10) sc_law_names.nd rfl (Or.inl rfl) (pe_ix ix_str (pv 2) (pe_op op_mod (pe_op op_add (pe_op op_fdiv (pv 0) pe_int) (pe_op op_mul (pv 9) (pv 8))) pe_int) (fun _ _ => rfl)))
          (pss_cons (ps_if (pt_cmpR op_gt (pv 7) pe_int (nomark _))
            (pss_one (ps_set (i := 10) sc_law_names.nd rfl (Or.inl rfl) (pe_ix ix_str (pv 3) (pe_op op_mod (pe_op op_add (pe_op op_fdiv (pv 0) pe_int) (pe_op op_mul (pv 9) (pv 8))) pe_int) (fun _ _ => rfl)))) pss_nil)
          (pss_one (ps_expr (pe_bm PySem.F.plainAttrs_list PySem.F.slot_list_append PySem.F.type_list_append mt_append (pv 5) (pa_cons (pe_op op_add_str (pe_op op_add_str (pe_bm PySem.F.plainAttrs_str PySem.F.slot_str_join PySem.F.type_str_join mt_join pe_str (pa_cons (pe_slice sl_list (pv 4) po_none (po_some (pv 7))) pa_nil)) (pv 10)) (pe_bm PySem.F.plainAttrs_str PySem.F.slot_str_join PySem.F.type_str_join mt_join pe_str (pa_cons (pe_slice sl_list (pv 4) (po_some (pe_op op_add (pv 7) pe_int)) (po_some (pv 6))) pa_nil))) pa_nil)))))))))))))
      (pss_cons (ps_if (pt_cmpR op_eq (pe_op op_mod (pe_op op_fdiv (pv 0) pe_int) pe_int) pe_int (nomark _))
        (pss_one (ps_expr (pe_bm0 PySem.F.plainAttrs_list PySem.F.slot_list_reverse PySem.F.type_list_reverse mt_reverse (pv 5)))) pss_nil)
      (pss_one (ps_ret (pv 5)))))))), ?_⟩
    refine ⟨_, rfl, _, _, rfl, rfl, (by decide +kernel), _, rfl, by decide, by decide, fun B gB => ?_⟩
    refine comp_by 8 (fun i σ H2 => ∃ v0 : Option V, σ = [v0, some (.str lets), some (.int c)] ∧ Same H H2 ∧ H2 B = some (.lst (chs (baseN c i)))) ⟨_, rfl, (Same.refl H).new gB, upd_same⟩ ?_ ?_
    · rintro i σ H2 hi ⟨v0, rfl, s2, hB⟩
      refine ⟨hi, ?_⟩
      rintro x H3 ⟨rfl, rfl⟩
      refine ntG ?_
      refine ⟨_, rfl, _, rfl, _, rfl, c, 0 + (i : Int), 65519, rfl, by omega, by omega, by decide, _, _, rfl, rfl, (by show (0 : Int) < 26; decide), lets, _, _, rfl, rfl, (by decide +kernel), atI_getD _ 0 (by omega) (by rw [lets_len]; omega), ?_⟩
      refine ⟨_, hB, small1000 (by rw [chs_len, baseN_len]; omega), _, rfl, s2.put gB, ?_⟩
      rw [upd_same, baseN_succ, chs_snoc, Int.zero_add]
      rfl
    · rintro σ H2 ⟨v0, rfl, s2, hB⟩
      refine ⟨Nat.le_refl _, ?_⟩
      have gB' : H2 B = some (.lst (chs (baseN c 8))) := hB
      refine g_if_p (a := decide (V.int (c / 5 % 4) = V.int 1) && decide (n < 9)) ?_ ?_
      · exact tand_pure (fun Q' h => ⟨_, rfl, _, _, rfl, rfl, ⟨by decide, by decide⟩, _, _, rfl, rfl, (by show (0 : Int) < 4; decide), rfl, _, rfl, h⟩) (fun Q' h => ⟨_, rfl, _, _, rfl, rfl, _, rfl, h⟩)
      refine ite2 (fun hm => ?_) (fun hm => ?_)
      · have hn9 : n < 9 := by
          rw [Bool.and_eq_true] at hm
          exact of_decide_eq_true hm.2
        refine ⟨_, rfl, _, rfl, by omega, by omega, fun D gD => ?_⟩
        refine comp_by n.toNat (fun i σ H3 => ∃ v0 : Option V, σ = [v0, some (.ref B)] ∧ Same H2 H3 ∧ H3 D = some (.lst (((List.range i).map (nmP c)).map V.str))) ⟨_, rfl, (Same.refl H2).new gD, upd_same⟩ ?_ ?_
        · rintro i σ H3 hi ⟨v0, rfl, s3, hD⟩
          refine ⟨hi, ?_⟩
          rintro x H4 ⟨rfl, rfl⟩
          refine ntG ?_
          refine ⟨rfl, _, rfl, _, rfl, _, _, rfl, rfl, _, rfl, B, _, rfl, SqL.of (s3 _ _ gB'), fun p gp => ?_⟩
          have hcut : cutV (chs (baseN c 8)) none (some (0 + (i : Int) + 1)) = chs ((baseN c 8).take (i + 1)) := by
            rw [show (0 + (i : Int) + 1) = ((i + 1 : Nat) : Int) by omega, cut_take (by rw [chs_len, baseN_len]; omega), chs_take]
          rw [hcut]
          have s4 : Same H2 (upd H4 p (.lst (chs ((baseN c 8).take (i + 1))))) := s3.new gp
          refine ⟨_, p, ((baseN c 8).take (i + 1)).map ch, rfl, rfl, .inr (SqL.of upd_same), (by decide +kernel), (by rw [ch_sum, List.length_map]; have : ((baseN c 8).take (i + 1)).length ≤ 8 := by { rw [List.length_take, baseN_len]; omega }; omega), ?_⟩
          refine ⟨_, upd_keep hD gp, small1000 (by rw [List.length_map, List.length_map, List.length_range]; omega), _, rfl, s4.put gD, ?_⟩
          rw [upd_same, range_map_succ, List.map_append, join0S]
          rfl
        · rintro σ H3 ⟨v0, rfl, s3, hD⟩
          refine ⟨Nat.le_refl _, ?_⟩
          have hnd : ((List.range n.toNat).map (nmP c)).Nodup := nodup_range_map fun k l hk hl e => nmP_inj (by omega) (by omega) e
          have hlen : ((List.range n.toNat).map (nmP c)).length = n.toNat := by simp
          generalize (List.range n.toNat).map (nmP c) = ns at hnd hlen hD
          have gDH : H D = none := s2.free gD
          refine ⟨_, rfl, _, _, rfl, rfl, ⟨by decide, by decide⟩, _, _, rfl, rfl, (by show (0 : Int) < 2; decide), rfl, _, rfl, ?_⟩
          refine ite2I (fun _ => ?_) (fun _ => ?_)
          · refine ⟨_, rfl, .inl ⟨rfl, _, SqL.of hD⟩, D, _, rfl, rfl, hD, ?_⟩
            refine ⟨_, rfl, q D ns.reverse _ ((s2.trans s3).put gDH) gDH (by rw [upd_same, List.map_reverse]) (by rw [List.length_reverse, hlen]) (nodup_rev hnd)⟩
          · exact ⟨_, rfl, q D ns _ (s2.trans s3) gDH hD hlen hnd⟩
      · refine ⟨_, rfl, _, _, rfl, rfl, (by show (0 : Int) < 8; decide), _, _, rfl, rfl, ?_⟩
        refine ⟨_, rfl, _, _, rfl, rfl, ⟨by decide, by decide⟩, _, rfl, _, _, rfl, rfl, (by show (0 : Int) < 1 + c % 8; omega), ?_⟩
        obtain ⟨lg, hlg, hlg1⟩ : ∃ lg : Nat, 1 + c % 8 = (lg : Int) ∧ 1 ≤ lg ∧ lg ≤ 8 := ⟨(1 + c % 8).toNat, by omega, by omega, by omega⟩
        rw [hlg]
        obtain ⟨at', hat, hat1⟩ : ∃ a : Nat, c / 8 % (lg : Int) = (a : Int) ∧ a < lg := ⟨(c / 8 % (lg : Int)).toNat, by have := Int.emod_nonneg (c / 8) (show (lg : Int) ≠ 0 by omega); omega, by have := Int.emod_lt_of_pos (c / 8) (show 0 < (lg : Int) by omega); have := Int.emod_nonneg (c / 8) (show (lg : Int) ≠ 0 by omega); omega⟩
        show gName 7 (V.int (c / 8 % (lg : Int))) _ _ _
        rw [hat]
        refine ⟨(by show 6 ≤ sizeLine; decide), fun st gst => ?_⟩
        have s3 : Same H2 (upd H2 st (.lst [.int 1, .int 5, .int 7, .int 11, .int 17, .int 25])) := (Same.refl H2).new gst
        refine ⟨_, rfl, c, 9, 65521, rfl, by decide, by decide, by decide, _, _, rfl, rfl, (by show (0 : Int) < 6; decide), st, _, _, _, rfl, rfl, SqL.of upd_same, atI_map V.int stepL 0 (by omega) (by show mixM c 9 65521 % 6 < 6; omega), ?_⟩
        generalize upd H2 st (.lst [.int 1, .int 5, .int 7, .int 11, .int 17, .int 25]) = H3 at s3 ⊢
        refine ⟨(by show 0 ≤ sizeLine; decide), fun D gD => ?_⟩
        have s4 : Same H2 (upd H3 D (.lst [])) := s3.new gD
        have gD2 : H2 D = none := s3.free gD
        have gDH : H D = none := s2.free gD2
        refine ⟨_, rfl, _, rfl, by omega, by omega, for_range (fun i σ H5 => ∃ v9 v10 : Option V, σ = [some (.int c), some (.int n), some (.str lets), some (.str sg36), some (.ref B), some (.ref D), some (.int (lg : Int)), some (.int (at' : Int)), some (.int (stepM c)), v9, v10] ∧ Same H2 H5 ∧ H5 D = some (.lst (((List.range i).map fun k => nmA (baseN c 8) at' lg (sgn c at' k)).map V.str)))
          ⟨none, none, ?_, s4, upd_same⟩ ?_ ?_⟩
        · rw [← sg36_eq, ← hlg]; rfl
        · rintro i σ H5 hi ⟨v9, v10, rfl, s5, hD⟩
          have hst := stepM_in c
          refine ⟨_, rfl, _, rfl, _, _, rfl, rfl, ⟨by decide, by decide⟩, _, rfl, _, rfl, _, _, rfl, rfl, .inl ⟨by omega, by omega⟩, _, _, rfl, rfl, _, _, rfl, rfl, (by show (0 : Int) < 26; decide), lets, _, _, rfl, rfl, (by decide +kernel), atI_getD _ 0 (by omega) (by rw [lets_len]; omega), ?_⟩
          have hb1 : ((baseN c 8).take at').length ≤ 8 := by rw [List.length_take, baseN_len]; omega
          have hb2 : (((baseN c 8).drop (at' + 1)).take (lg - (at' + 1))).length ≤ 8 := by rw [List.length_take, List.length_drop, baseN_len]; omega
          rw [Int.zero_add]
          refine ⟨_, rfl, _, _, rfl, rfl, _, rfl, ?_⟩
          refine ite2 (fun hpos => ?_) (fun hpos => ?_)
          · have hpos' : 0 < at' := by have := of_decide_eq_true hpos; omega
            refine ⟨_, rfl, _, rfl, _, _, rfl, rfl, ⟨by decide, by decide⟩, _, rfl, _, rfl, _, _, rfl, rfl, .inl ⟨by omega, by omega⟩, _, _, rfl, rfl, _, _, rfl, rfl, (by show (0 : Int) < 36; decide), sg36, _, _, rfl, rfl, (by decide +kernel), atI_getD _ 0 (by omega) (by rw [sg36_len]; omega), ?_⟩
            refine ⟨_, rfl, .inl ⟨rfl, _, SqL.of hD⟩, rfl, _, rfl, _, rfl, _, rfl, B, _, rfl, SqL.of (s5 _ _ gB'), fun p gp => ?_⟩
            rw [cut_take (by rw [chs_len, baseN_len]; omega), chs_take]
            have s6 : Same H2 (upd H5 p (.lst (chs ((baseN c 8).take at')))) := s5.new gp
            refine ⟨_, p, ((baseN c 8).take at').map ch, rfl, rfl, .inr (SqL.of upd_same), (by decide +kernel), (by rw [ch_sum, List.length_map]; omega), ?_⟩
            rw [join0S]
            refine ⟨_, rfl, lS ((baseN c 8).take at'), ch (sgAt ((c / 64 + (i : Int) * stepM c) % 36)), rfl, rfl, (by rw [lS_len]; show _ + 1 ≤ sizeLine; exact Nat.le_of_lt (small1000 (by omega))), ?_⟩
            refine ⟨rfl, _, rfl, _, rfl, _, _, rfl, rfl, _, rfl, _, rfl, _, rfl, B, _, rfl, SqL.of (s6 _ _ gB'), fun p2 gp2 => ?_⟩
            rw [show ((at' : Int) + 1) = ((at' + 1 : Nat) : Int) by omega, cut_mid _ _ _ (by omega) (by rw [chs_len, baseN_len]; omega), chs_drop, chs_take]
            have s7 := s6.new (o := .lst (chs (((baseN c 8).drop (at' + 1)).take (lg - (at' + 1))))) gp2
            refine ⟨_, p2, (((baseN c 8).drop (at' + 1)).take (lg - (at' + 1))).map ch, rfl, rfl, .inr (SqL.of upd_same), (by decide +kernel), (by rw [ch_sum, List.length_map]; omega), ?_⟩
            rw [join0S]
            refine ⟨lS ((baseN c 8).take at') ++ ch (sgAt ((c / 64 + (i : Int) * stepM c) % 36)), lS (((baseN c 8).drop (at' + 1)).take (lg - (at' + 1))), rfl, rfl, (by rw [Str.length_append, lS_len, lS_len]; show _ + 1 + _ ≤ sizeLine; exact Nat.le_of_lt (small1000 (by omega))), ?_⟩
            refine ⟨D, _, _, rfl, rfl, upd_keep (upd_keep hD gp) gp2, small1000 (by rw [List.length_map, List.length_map, List.length_range]; omega), ?_⟩
            refine ⟨_, _, rfl, s7.put gD2, ?_⟩
            rw [upd_same, range_map_succ, List.map_append]
            have e : lS ((baseN c 8).take at') ++ ch (sgAt ((c / 64 + (i : Int) * stepM c) % 36)) ++ lS (((baseN c 8).drop (at' + 1)).take (lg - (at' + 1))) = nmA (baseN c 8) at' lg (sgn c at' i) := by
              unfold nmA sgn
              rw [if_pos hpos', ch_lS, lS_app, lS_app]
            rw [e]
            rfl
          · have hpos' : ¬ 0 < at' := fun z => hpos (decide_eq_true (by omega))
            refine ⟨_, rfl, .inl ⟨rfl, _, SqL.of hD⟩, rfl, _, rfl, _, rfl, _, rfl, B, _, rfl, SqL.of (s5 _ _ gB'), fun p gp => ?_⟩
            rw [cut_take (by rw [chs_len, baseN_len]; omega), chs_take]
            have s6 : Same H2 (upd H5 p (.lst (chs ((baseN c 8).take at')))) := s5.new gp
            refine ⟨_, p, ((baseN c 8).take at').map ch, rfl, rfl, .inr (SqL.of upd_same), (by decide +kernel), (by rw [ch_sum, List.length_map]; omega), ?_⟩
            rw [join0S]
            refine ⟨_, rfl, lS ((baseN c 8).take at'), ch (letAt ((c / 64 + (i : Int) * stepM c) % 26)), rfl, rfl, (by rw [lS_len]; show _ + 1 ≤ sizeLine; exact Nat.le_of_lt (small1000 (by omega))), ?_⟩
            refine ⟨rfl, _, rfl, _, rfl, _, _, rfl, rfl, _, rfl, _, rfl, _, rfl, B, _, rfl, SqL.of (s6 _ _ gB'), fun p2 gp2 => ?_⟩
            rw [show ((at' : Int) + 1) = ((at' + 1 : Nat) : Int) by omega, cut_mid _ _ _ (by omega) (by rw [chs_len, baseN_len]; omega), chs_drop, chs_take]
            have s7 := s6.new (o := .lst (chs (((baseN c 8).drop (at' + 1)).take (lg - (at' + 1))))) gp2
            refine ⟨_, p2, (((baseN c 8).drop (at' + 1)).take (lg - (at' + 1))).map ch, rfl, rfl, .inr (SqL.of upd_same), (by decide +kernel), (by rw [ch_sum, List.length_map]; omega), ?_⟩
            rw [join0S]
            refine ⟨lS ((baseN c 8).take at') ++ ch (letAt ((c / 64 + (i : Int) * stepM c) % 26)), lS (((baseN c 8).drop (at' + 1)).take (lg - (at' + 1))), rfl, rfl, (by rw [Str.length_append, lS_len, lS_len]; show _ + 1 + _ ≤ sizeLine; exact Nat.le_of_lt (small1000 (by omega))), ?_⟩
            refine ⟨D, _, _, rfl, rfl, upd_keep (upd_keep hD gp) gp2, small1000 (by rw [List.length_map, List.length_map, List.length_range]; omega), ?_⟩
            refine ⟨_, _, rfl, s7.put gD2, ?_⟩
            rw [upd_same, range_map_succ, List.map_append]
            have e : lS ((baseN c 8).take at') ++ ch (letAt ((c / 64 + (i : Int) * stepM c) % 26)) ++ lS (((baseN c 8).drop (at' + 1)).take (lg - (at' + 1))) = nmA (baseN c 8) at' lg (sgn c at' i) := by
              unfold nmA sgn
              rw [if_neg hpos', ch_lS, lS_app, lS_app]
            rw [e]
            rfl
        · rintro σ H5 ⟨v9, v10, rfl, s5, hD⟩
          have hnd : ((List.range n.toNat).map fun k => nmA (baseN c 8) at' lg (sgn c at' k)).Nodup := nodup_range_map fun k l hk hl e => sgn_inj (by omega) (by omega) (nmA_inj e)
          have hlen : ((List.range n.toNat).map fun k => nmA (baseN c 8) at' lg (sgn c at' k)).length = n.toNat := by simp
          generalize ((List.range n.toNat).map fun k => nmA (baseN c 8) at' lg (sgn c at' k)) = ns at hnd hlen hD
          refine ⟨_, rfl, _, _, rfl, rfl, ⟨by decide, by decide⟩, _, _, rfl, rfl, (by show (0 : Int) < 2; decide), rfl, _, rfl, ?_⟩
          refine ite2I (fun _ => ?_) (fun _ => ?_)
          · refine ⟨_, rfl, .inl ⟨rfl, _, SqL.of hD⟩, D, _, rfl, rfl, hD, ?_⟩
            refine ⟨_, rfl, q D ns.reverse _ ((s2.trans s5).put gDH) gDH (by rw [upd_same, List.map_reverse]) (by rw [List.length_reverse, hlen]) (nodup_rev hnd)⟩
          · exact ⟨_, rfl, q D ns _ (s2.trans s5) gDH hD hlen hnd⟩
theorem to_g {X R : TS} {D : Ends} {r : VK} {b k : L2.St → Hp → Prop} {i : Nat} {v : V} {σ : L2.St} {H : Hp} (h : tSeq X R D (σ.set i (some v)) H) : gName i v σ H (Ends.nx ⟨tSeq X R D, r, b, k⟩) := h
theorem to_n {X R : TS} {D : Ends} {r : VK} {b k : L2.St → Hp → Prop} {σ : L2.St} {H : Hp} (h : tSeq X R D σ H) : tNext ⟨tSeq X R D, r, b, k⟩ σ H := h
theorem if_and_new {c1 c2 : TT} {A B R : TS} {D : Ends} {σ : L2.St} {H : Hp} {a b : Bool} (h1 : ∀ Q : Bool → Hp → Prop, Q a H → c1 σ H Q) (h2 : ∀ Q : Bool → Hp → Prop, (∀ z, H z = none → Q b (upd H z (.lst []))) → c2 σ H Q)
    (hA : (a && b) = true → ∀ H1, Same H H1 → A { D with nx := R D } σ H1) (hB : (a && b) = false → ∀ H1, Same H H1 → B { D with nx := R D } σ H1) : tSeq (tIfS (tAnd c1 c2) A B) R D σ H := by
  refine h1 _ ?_
  cases a with
  | false => exact iteF (iteF (hB rfl H (Same.refl H)))
  | true =>
    refine iteT (h2 _ fun z gz => ?_)
    cases b with
    | true => exact iteT (hA rfl _ ((Same.refl H).new gz))
    | false => exact iteF (hB rfl _ ((Same.refl H).new gz))
theorem if_or_new {c1 c2 : TT} {A B R : TS} {D : Ends} {σ : L2.St} {H : Hp} {a b : Bool} (h1 : ∀ Q : Bool → Hp → Prop, (∀ z, H z = none → Q a (upd H z (.lst []))) → c1 σ H Q) (h2 : ∀ H1, Same H H1 → ∀ Q : Bool → Hp → Prop, Q b H1 → c2 σ H1 Q)
    (hA : (a || b) = true → ∀ H1, Same H H1 → A { D with nx := R D } σ H1) (hB : (a || b) = false → ∀ H1, Same H H1 → B { D with nx := R D } σ H1) : tSeq (tIfS (tOr c1 c2) A B) R D σ H := by
  refine h1 _ fun z gz => ?_
  have s : Same H (upd H z (.lst [])) := (Same.refl H).new gz
  cases a with
  | true => exact iteT (iteT (hA rfl _ s))
  | false =>
    refine iteF (h2 _ s _ ?_)
    cases b with
    | true => exact iteT (hA rfl _ s)
    | false => exact iteF (hB rfl _ s)
theorem set_ifexp {t : TT} {ta tb : TE} {R : TS} {g : TG} {D : Ends} {σ : L2.St} {H : Hp} {a : Bool} {x : V} (ht : ∀ Q : Bool → Hp → Prop, Q a H → t σ H Q) (hA : a = true → ∀ Q : VK, Q x H → ta σ H Q) (hB : a = false → ∀ Q : VK, Q x H → tb σ H Q) (q : g x σ H (R D)) : tSeq (tAsg (tIf t ta tb) g) R D σ H := by
  refine ht _ ?_
  cases a with
  | true => exact iteT (hA rfl _ q)
  | false => exact iteF (hB rfl _ q)
def spOther : Sp := fun vs H Q _ => ∃ (i n m d : Int), vs = [.int i, .int n, .int m, .int d] ∧ 0 ≤ i ∧ i < n ∧ n ≤ 24 ∧ ∀ j : Int, 0 ≤ j → j < n → Q (.int j) H
theorem ok_other (T : Txt K mg) : L2.Cl P w K mg base 1 "_law_other" ["_law_here", "_law_many", "_law_mix", "_law_mode"] spOther := by
  refine Cl.of T.d_law_other sc_law_other (fun vs H Q E h => ?_) (fun _ _ _ _ _ _ us hl => match us, hl with | [_, _, _, _], _ => rfl) (fun f cdv A outer s H vs Q E hr h => ?_)
  · obtain ⟨i, n, m, d, rfl, _⟩ := h
    rfl
  · obtain ⟨i, n, m, d, rfl, hi, hin, hn, q⟩ := h
    refine ⟨_, (pss_cons (ps_if (PW.pt (pw_and (pt_cmpR op_gt (pv 1) pe_int (nomark _)) (pw_and1 (PW.pt (pw_or (pt_cmpR op_eq (pe_op op_mod (pv 3) pe_int) pe_int (nomark _)) (pw_or1 (PW.pt (pw_and (pt_cmpR op_eq (pe_op op_mod (pv 3) pe_int) pe_int (nomark _)) (pw_and1 (pt_cmpR op_eq (pe_op op_mod (pv 2) pe_int) pe_int (nomark _)))))))))))
        (pss_one (ps_ret (pe_op op_mod (pe_op op_add (pe_op op_add (pv 0) pe_int) (pe_op op_mod (pe_op op_fdiv (pv 2) pe_int) (pe_op op_sub (pv 1) pe_int))) (pv 1)))) pss_nil)
      (pss_cons (ps_if (PW.pt (pw_and (pt_cmpR op_eq (pe_op op_fdiv (pv 3) pe_int) pe_int (nomark _)) (pw_and1 (pt_cmpR op_lt (pe_op op_add (pv 0) pe_int) (pv 1) (nomark _)))))
        (pss_one (ps_ret (pe_op op_add (pe_op op_add (pv 0) pe_int) (pe_op op_mod (pe_op op_fdiv (pv 2) pe_int) (pe_op op_sub (pe_op op_sub (pv 1) pe_int) (pv 0)))))) pss_nil)
      (pss_cons (ps_if (PW.pt (pw_and (pt_cmpR op_eq (pe_op op_fdiv (pv 3) pe_int) pe_int (nomark _)) (pw_and1 (pt_cmpR op_gt (pv 0) pe_int (nomark _)))))
        (pss_one (ps_ret (pe_op op_mod (pe_op op_fdiv (pv 2) pe_int) (pv 0)))) pss_nil)
      (pss_one (ps_ret (pv 0)))))), ?_⟩
    refine s_if_p (a := decide (1 < n) && (decide (V.int (d % 3) = V.int 0) || (decide (V.int (d % 3) = V.int 1) && decide (V.int (m % 5) = V.int 0)))) ?_ ?_
    · exact tand_pure (fun Q' h => ⟨_, rfl, _, _, rfl, rfl, _, rfl, h⟩) (tor_pure (fun Q' h => ⟨_, rfl, _, _, rfl, rfl, (by show (0 : Int) < 3; decide), rfl, _, rfl, h⟩) (tand_pure (fun Q' h => ⟨_, rfl, _, _, rfl, rfl, (by show (0 : Int) < 3; decide), rfl, _, rfl, h⟩) (fun Q' h => ⟨_, rfl, _, _, rfl, rfl, (by show (0 : Int) < 5; decide), rfl, _, rfl, h⟩)))
    refine ite2 (fun hc => ?_) (fun _ => ?_)
    · have h1 : 1 < n := by
        rw [Bool.and_eq_true] at hc
        exact of_decide_eq_true hc.1
      exact ⟨_, rfl, _, _, rfl, rfl, _, rfl, _, _, rfl, rfl, ⟨by decide, by decide⟩, _, rfl, _, _, rfl, rfl, _, _, rfl, rfl, (by show (0 : Int) < n - 1; omega), _, _, rfl, rfl, _, rfl, _, _, rfl, rfl, (by show (0 : Int) < n; omega), q _ (Int.emod_nonneg _ (by omega)) (Int.emod_lt_of_pos _ (by omega))⟩
    refine to_n ?_
    refine s_if_p (a := decide (V.int (d / 3) = V.int 0) && decide (i + 1 < n)) ?_ ?_
    · exact tand_pure (fun Q' h => ⟨_, rfl, _, _, rfl, rfl, ⟨by decide, by decide⟩, rfl, _, rfl, h⟩) (fun Q' h => ⟨_, rfl, _, _, rfl, rfl, _, rfl, _, _, rfl, rfl, _, rfl, h⟩)
    refine ite2 (fun hc => ?_) (fun _ => ?_)
    · have h1 : i + 1 < n := by
        rw [Bool.and_eq_true] at hc
        exact of_decide_eq_true hc.2
      have h2 := Int.emod_nonneg (m / 5) (show n - 1 - i ≠ 0 by omega)
      have h3 := Int.emod_lt_of_pos (m / 5) (show 0 < n - 1 - i by omega)
      exact ⟨_, rfl, _, _, rfl, rfl, _, rfl, _, _, rfl, rfl, ⟨by decide, by decide⟩, _, rfl, _, _, rfl, rfl, _, rfl, _, _, rfl, rfl, _, _, rfl, rfl, (by show (0 : Int) < n - 1 - i; omega), _, _, rfl, rfl, q _ (by omega) (by omega)⟩
    refine to_n ?_
    refine s_if_p (a := decide (V.int (d / 3) = V.int 1) && decide (0 < i)) ?_ ?_
    · exact tand_pure (fun Q' h => ⟨_, rfl, _, _, rfl, rfl, ⟨by decide, by decide⟩, rfl, _, rfl, h⟩) (fun Q' h => ⟨_, rfl, _, _, rfl, rfl, _, rfl, h⟩)
    refine ite2 (fun hc => ?_) (fun _ => ?_)
    · have h1 : 0 < i := by
        rw [Bool.and_eq_true] at hc
        exact of_decide_eq_true hc.2
      have h2 := Int.emod_nonneg (m / 5) (show i ≠ 0 by omega)
      have h3 := Int.emod_lt_of_pos (m / 5) h1
      exact ⟨_, rfl, _, _, rfl, rfl, ⟨by decide, by decide⟩, _, rfl, _, _, rfl, rfl, h1, q _ (by omega) (by omega)⟩
    exact ⟨_, rfl, q _ hi hin⟩
def But2 (a b : Addr) (H H' : Hp) : Prop := ∀ c o, c ≠ a → c ≠ b → H c = some o → H' c = some o
theorem But2.of {a b : Addr} {H H' : Hp} (s : Same H H') : But2 a b H H' := fun c o _ _ h => s c o h
theorem But2.same {a b : Addr} {H H1 H2 : Hp} (h : But2 a b H H1) (s : Same H1 H2) : But2 a b H H2 := fun c o h1 h2 h3 => s _ _ (h c o h1 h2 h3)
theorem But2.put1 {a b : Addr} {H H1 : Hp} {o : HO} (h : But2 a b H H1) : But2 a b H (upd H1 a o) := fun c o' h1 h2 h3 => by
  rw [upd_ne h1]
  exact h c o' h1 h2 h3
theorem But2.put2 {a b : Addr} {H H1 : Hp} {o : HO} (h : But2 a b H H1) : But2 a b H (upd H1 b o) := fun c o' h1 h2 h3 => by
  rw [upd_ne h2]
  exact h c o' h1 h2 h3
def vN (c : Str) (n : Nat) : Str := c ++ Str.ofString (toString (n : Int))
theorem v_ok : ∀ n : Nat, n < 100 → NameOk (vN "v" n) := by decide +kernel
theorem g_ok : ∀ n : Nat, n < 100 → NameOk (vN "g" n) := by decide +kernel
theorem vN_len : ∀ n : Nat, n < 100 → (Str.ofString (toString ((n : Nat) : Int))).length ≤ 8 := by decide +kernel
def MoreOf (ms ms' : List Str) : Prop := ms' = ms ∨ ∃ x, NameOk x ∧ ms' = ms ++ [x]
def Toward (o : Option Str) : Rw → Prop
  | .bring p _ => o = some p
  | .ask p _ => o = some p
  | _ => True
def spRow : Sp := fun vs H Q _ => ∃ (kd mx : Int) (o : Option Str) (m g u : Addr) (ms gs us : List Str), vs = [.int kd, .int mx, optV o, .ref m, .ref g, .ref u] ∧ 0 ≤ mx ∧ mx < 1000000 ∧ H m = some (.lst (ms.map V.str)) ∧ H g = some (.lst (gs.map V.str)) ∧ H u = some (.lst (us.map V.str)) ∧ m ≠ g ∧ m ≠ u ∧ ms.length < 100 ∧ gs.length < 100 ∧ us.length < 100 ∧ (∀ x ∈ ms, NameOk x) ∧ (∀ x ∈ gs, NameOk x) ∧ (∀ x ∈ us, NameOk x) ∧
  ∀ (r : Addr) (rw : Rw) (ms' gs' : List Str) (H' : Hp), But2 m g H H' → H' m = some (.lst (ms'.map V.str)) → H' g = some (.lst (gs'.map V.str)) → MoreOf ms ms' → MoreOf gs gs' → RowAt H' r rw → Toward o rw → Q (.ref r) H'
theorem atI_strs {l : List Str} {i : Int} (h0 : 0 ≤ i) (h1 : i < (l.length : Int)) : ∃ x, x ∈ l ∧ atI (l.map V.str) i = some (.str x) := atI_menu l h0 h1
theorem mod_lt {i : Int} {n : Nat} (h : 0 < n) : 0 ≤ i % (n : Int) ∧ i % (n : Int) < (n : Int) := ⟨Int.emod_nonneg _ (by omega), Int.emod_lt_of_pos _ (by omega)⟩
theorem log_small {n : Nat} (h : n < 100) : ((n : Int)).natAbs.log2 < 1920 := log_ok (by omega) (by omega)
theorem ok_row (T : Txt K mg) : L2.Cl P w K mg base 1 "_law_row" ["_law_kind", "_law_mix", "_law_other_here", "_law_mine", "_law_given", "_law_others"] spRow := by
  refine Cl.of T.d_law_row sc_law_row (fun vs H Q E h => ?_) (fun _ _ _ _ _ _ us hl => match us, hl with | [_, _, _, _, _, _], _ => rfl) (fun f cdv A outer s H vs Q E hr h => ?_)
  · obtain ⟨kd, mx, o, m, g, u, ms, gs, us, rfl, _⟩ := h
    rfl
  · obtain ⟨kd, mx, o, m, g, u, ms, gs, us, rfl, hx0, hx1, hm, hg, hu', hmg, hmu, hml, hgl, hul, hmo, hgo, huo, q⟩ := h
    have hu0 := Nat.lt_of_succ_lt (hu_of hr)
    refine ⟨_, (pss_cons (ps_set (i := 6) sc_law_row.nd rfl (Or.inl rfl) (pe_op op_add_str pe_str (pe_callTy call_str_int (by rfl) T.n_str boot_str (pa_cons (pe_callB call_len_seq (by rfl) T.n_len PySem.boot_len (pa_cons (pv 3) pa_nil)) pa_nil))))
      (pss_cons (ps_if (PW.pt (pw_and (pt_cmpR op_lt (pv 0) pe_int (nomark _)) (pw_and1 (pt_cmp (pc_notN (pv 2))))))
        (pss_cons (ps_if (PW.pt (pw_or (pt_cmpR (op_eqL_nil hu0) (pv 5) (pe_lst pa_nil) (nomark _)) (pw_or1 (pt_cmpR op_eq (pe_op op_mod (pv 1) pe_int) pe_int (nomark _)))))
          (pss_one (ps_ret (pe_tup (pa_cons pe_str (pa_cons (pv 2) (pa_cons (pe_tup pa_nil) pa_nil)))))) pss_nil)
        (pss_cons (ps_expr (pe_bm PySem.F.plainAttrs_list PySem.F.slot_list_append PySem.F.type_list_append mt_append (pv 3) (pa_cons (pv 6) pa_nil)))
        (pss_one (ps_ret (pe_tup (pa_cons pe_str (pa_cons (pv 2) (pa_cons (pe_tup (pa_cons (pe_tup (pa_cons (pe_ix ix_list (pv 5) (pe_op op_mod (pv 1) (pe_callB call_len_seq (by rfl) T.n_len PySem.boot_len (pa_cons (pv 5) pa_nil))) (fun _ _ => rfl)) (pa_cons (pv 6) pa_nil))) pa_nil)) pa_nil)))))))) pss_nil)
      (pss_cons (ps_if (PW.pt (pw_and (pt_cmpR op_eq (pv 0) pe_int (nomark _)) (pw_and1 (pt_cmp (pc_notN (pv 2))))))
        (pss_cons (ps_if (PW.pt (pw_or (pt_cmpR (op_eqL_nil hu0) (pv 3) (pe_lst pa_nil) (nomark _)) (pw_or1 (pt_cmpR op_eq (pe_op op_mod (pv 1) pe_int) pe_int (nomark _)))))
          (pss_one (ps_ret (pe_tup (pa_cons pe_str (pa_cons (pv 2) (pa_cons pe_non pa_nil)))))) pss_nil)
        (pss_one (ps_ret (pe_tup (pa_cons pe_str (pa_cons (pv 2) (pa_cons (pe_ix ix_list (pv 3) (pe_op op_mod (pv 1) (pe_callB call_len_seq (by rfl) T.n_len PySem.boot_len (pa_cons (pv 3) pa_nil))) (fun _ _ => rfl)) pa_nil))))))) pss_nil)
      (pss_cons (ps_if (PW.pt (pw_and (pt_cmpR op_eq (pv 0) pe_int (nomark _)) (pw_and1 (pt_cmpR (op_neL_nil hu0) (pv 3) (pe_lst pa_nil) (nomark _)))))
        (pss_cons (ps_expr (pe_bm PySem.F.plainAttrs_list PySem.F.slot_list_append PySem.F.type_list_append mt_append (pv 4) (pa_cons (pe_op op_add_str pe_str (pe_callTy call_str_int (by rfl) T.n_str boot_str (pa_cons (pe_callB call_len_seq (by rfl) T.n_len PySem.boot_len (pa_cons (pv 4) pa_nil)) pa_nil))) pa_nil)))
        (pss_one (ps_ret (pe_tup (pa_cons pe_str (pa_cons (pe_ix ix_list (pv 3) (pe_op op_mod (pv 1) (pe_callB call_len_seq (by rfl) T.n_len PySem.boot_len (pa_cons (pv 3) pa_nil))) (fun _ _ => rfl)) (pa_cons (pe_ix ix_list (pv 4) (pe_un un_neg pe_int) (fun _ _ => rfl)) pa_nil))))))) pss_nil)
      (pss_cons (ps_if (PW.pt (pw_and (pt_cmpR op_eq (pv 0) pe_int (nomark _)) (pw_and1 (pt_cmpR (op_neL_nil hu0) (pv 3) (pe_lst pa_nil) (nomark _)))))
        (pss_one (ps_ret (pe_tup (pa_cons pe_str (pa_cons (pe_tup (pa_cons (pe_tup (pa_cons pe_int (pa_cons (pe_ix ix_list (pv 3) (pe_op op_mod (pv 1) (pe_callB call_len_seq (by rfl) T.n_len PySem.boot_len (pa_cons (pv 3) pa_nil))) (fun _ _ => rfl)) pa_nil))) (pa_cons (pe_tup (pa_cons (pe_un un_neg pe_int) (pa_cons (pv 1) pa_nil))) pa_nil))) pa_nil))))) pss_nil)
      (pss_cons (ps_if (pt_cmpR op_eq (pv 0) pe_int (nomark _))
        (pss_one (ps_ret (pe_tup (pa_cons pe_str (pa_cons (pe_tup (pa_cons (pe_tup (pa_cons pe_int (pa_cons (pv 1) pa_nil))) pa_nil)) (pa_cons pe_non pa_nil)))))) pss_nil)
      (pss_cons (ps_expr (pe_bm PySem.F.plainAttrs_list PySem.F.slot_list_append PySem.F.type_list_append mt_append (pv 3) (pa_cons (pv 6) pa_nil)))
      (pss_cons (ps_if (pt_cmpR op_eq (pv 0) pe_int (nomark _))
        (pss_one (ps_ret (pe_tup (pa_cons pe_str (pa_cons (pv 6) pa_nil))))) pss_nil)
      (pss_one (ps_ret (pe_tup (pa_cons pe_str (pa_cons (pv 6) (pa_cons (pe_tup (pa_cons (pe_tup (pa_cons pe_int (pa_cons (pv 1) pa_nil))) pa_nil)) pa_nil)))))))))))))), ?_⟩
    refine ⟨_, rfl, m, _, rfl, .inl (SqL.of hm), _, rfl, (by rw [List.length_map]; exact log_small hml), _, _, rfl, rfl, (by rw [List.length_map]; have := vN_len _ hml; show 1 + _ ≤ sizeLine; exact Nat.le_of_lt (small1000 (by omega))), ?_⟩
    rw [List.length_map]
    show gName 6 (V.str (vN "v" ms.length)) _ _ _
    have hown : NameOk (vN "v" ms.length) := v_ok _ hml
    generalize vN "v" ms.length = ow at hown ⊢
    refine g_if_p (a := decide (kd < 3) && !decide (optV o = V.non)) ?_ ?_
    · exact tand_pure (fun Q' h => ⟨_, rfl, _, _, rfl, rfl, _, rfl, h⟩) (fun Q' h => ⟨_, rfl, _, rfl, h⟩)
    refine ite2 (fun hc => ?_) (fun hc1 => ?_)
    · obtain ⟨p, rfl⟩ : ∃ p, o = some p := by
        cases o with
        | some p => exact ⟨p, rfl⟩
        | none => simp [optV] at hc
      refine if_or_new (a := (us.map V.str).isEmpty) (b := decide (V.int (mx % 3) = V.int 0)) (fun Q' h => ⟨_, rfl, (by show 0 ≤ sizeLine; decide), fun z gz => ⟨u, z, _, rfl, rfl, SqL.of (upd_keep hu' gz), SqL.of upd_same, _, rfl, h z gz⟩⟩) (fun H1 _ Q' h => ⟨_, rfl, _, _, rfl, rfl, (by show (0 : Int) < 3; decide), rfl, _, rfl, h⟩) (fun _ H1 s1 => ?_) (fun hb H1 s1 => ?_)
      · refine ⟨_, rfl, (by show 0 ≤ sizeLine; decide), fun e ge => (⟨by show 3 ≤ sizeLine; decide, fun r gr => ?_⟩ : _ ∧ _)⟩
        have s2 := (s1.new (o := .tup []) ge).new (o := .tup [.str "bring", .str p, .ref e]) gr
        exact q r (.bring p []) ms gs _ (.of s2) (s2 _ _ hm) (s2 _ _ hg) (.inl rfl) (.inl rfl) ⟨e, upd_same, ⟨[], upd_keep upd_same gr, .nil⟩, by simp⟩ rfl
      · have hne : 0 < us.length := by
          rw [Bool.or_eq_false_iff] at hb
          cases us with
          | nil => exact absurd hb.1 (by simp)
          | cons a b => simp
        refine to_n ?_
        have hm1 := s1 _ _ hm
        refine ⟨_, rfl, .inl ⟨rfl, _, SqL.of hm1⟩, _, rfl, m, _, _, rfl, rfl, hm1, small1000 (by rw [List.length_map]; omega), ?_⟩
        have b2 : But2 m g H (upd H1 m (.lst (ms.map V.str ++ [.str ow]))) := (But2.of s1).put1
        have hm2 : upd H1 m (.lst (ms.map V.str ++ [.str ow])) m = some (.lst ((ms ++ [ow]).map V.str)) := by rw [upd_same, List.map_append]; rfl
        have hg2 : upd H1 m (.lst (ms.map V.str ++ [.str ow])) g = some (.lst (gs.map V.str)) := by rw [upd_ne hmg.symm]; exact s1 _ _ hg
        have hu2 : upd H1 m (.lst (ms.map V.str ++ [.str ow])) u = some (.lst (us.map V.str)) := by rw [upd_ne hmu.symm]; exact s1 _ _ hu'
        generalize upd H1 m (.lst (ms.map V.str ++ [.str ow])) = H2 at b2 hm2 hg2 hu2 ⊢
        obtain ⟨y, hy, ey⟩ := atI_strs (l := us) (mod_lt (i := mx) hne).1 (mod_lt hne).2
        refine ⟨_, rfl, _, rfl, _, rfl, _, rfl, u, _, rfl, .inl (SqL.of hu2), _, _, rfl, rfl, (by rw [List.length_map]; show (0 : Int) < (us.length : Int); omega), u, _, _, _, rfl, rfl, SqL.of hu2, (by rw [List.length_map]; exact ey), _, rfl, (by show 2 ≤ sizeLine; decide), fun t2 gt2 => (⟨by show 1 ≤ sizeLine; decide, fun t1 gt1 => (⟨by show 3 ≤ sizeLine; decide, fun r gr => ?_⟩ : _ ∧ _)⟩ : _ ∧ _)⟩
        have s3 : Same H2 (upd H2 t2 (.tup [.str y, .str ow])) := (Same.refl H2).new gt2
        have s4 := s3.new (o := .tup [.ref t2]) gt1
        have s5 := s4.new (o := .tup [.str "bring", .str p, .ref t1]) gr
        refine q r (.bring p [(y, ow)]) (ms ++ [ow]) gs _ (b2.same s5) (s5 _ _ hm2) (s5 _ _ hg2) (.inr ⟨ow, hown, rfl⟩) (.inl rfl) ⟨t1, upd_same, ⟨[.ref t2], upd_keep upd_same gr, .cons ⟨t2, rfl, upd_keep (upd_keep upd_same gt1) gr, huo y hy, hown⟩ .nil⟩, by simp⟩ rfl
    refine to_n ?_
    refine s_if_p (a := decide (V.int kd = V.int 3) && !decide (optV o = V.non)) ?_ ?_
    · exact tand_pure (fun Q' h => ⟨_, rfl, rfl, _, rfl, h⟩) (fun Q' h => ⟨_, rfl, _, rfl, h⟩)
    refine ite2 (fun hc => ?_) (fun hc2 => ?_)
    · obtain ⟨p, rfl⟩ : ∃ p, o = some p := by
        cases o with
        | some p => exact ⟨p, rfl⟩
        | none => simp [optV] at hc
      refine if_or_new (a := (ms.map V.str).isEmpty) (b := decide (V.int (mx % 2) = V.int 0)) (fun Q' h => ⟨_, rfl, (by show 0 ≤ sizeLine; decide), fun z gz => ⟨m, z, _, rfl, rfl, SqL.of (upd_keep hm gz), SqL.of upd_same, _, rfl, h z gz⟩⟩) (fun H1 _ Q' h => ⟨_, rfl, _, _, rfl, rfl, (by show (0 : Int) < 2; decide), rfl, _, rfl, h⟩) (fun _ H1 s1 => ?_) (fun hb H1 s1 => ?_)
      · refine ⟨_, rfl, (by show 3 ≤ sizeLine; decide), fun r gr => ?_⟩
        have s2 := s1.new (o := .tup [.str "ask", .str p, .non]) gr
        exact q r (.ask p none) ms gs _ (.of s2) (s2 _ _ hm) (s2 _ _ hg) (.inl rfl) (.inl rfl) upd_same rfl
      · have hne : 0 < ms.length := by
          rw [Bool.or_eq_false_iff] at hb
          cases ms with
          | nil => exact absurd hb.1 (by simp)
          | cons a b => simp
        obtain ⟨y, hy, ey⟩ := atI_strs (l := ms) (mod_lt (i := mx) hne).1 (mod_lt hne).2
        have hm1 := s1 _ _ hm
        refine ⟨_, rfl, _, rfl, _, rfl, _, rfl, m, _, rfl, .inl (SqL.of hm1), _, _, rfl, rfl, (by rw [List.length_map]; show (0 : Int) < (ms.length : Int); omega), m, _, _, _, rfl, rfl, SqL.of hm1, (by rw [List.length_map]; exact ey), (by show 3 ≤ sizeLine; decide), fun r gr => ?_⟩
        have s2 := s1.new (o := .tup [.str "ask", .str p, .str y]) gr
        exact q r (.ask p (some y)) ms gs _ (.of s2) (s2 _ _ hm) (s2 _ _ hg) (.inl rfl) (.inl rfl) upd_same rfl
    refine to_n ?_
    refine if_and_new (a := decide (V.int kd = V.int 4)) (b := !(ms.map V.str).isEmpty) (fun Q' h => ⟨_, rfl, rfl, _, rfl, h⟩) (fun Q' h => ⟨_, rfl, (by show 0 ≤ sizeLine; decide), fun z gz => ⟨m, z, _, rfl, rfl, SqL.of (upd_keep hm gz), SqL.of upd_same, _, rfl, h z gz⟩⟩) (fun hb H1 s1 => ?_) (fun _ H1 s1 => ?_)
    · have hne : 0 < ms.length := by
        rw [Bool.and_eq_true] at hb
        cases ms with
        | nil => exact absurd hb.2 (by simp)
        | cons a b => simp
      have hm1 := s1 _ _ hm
      have hg1 := s1 _ _ hg
      refine ⟨_, rfl, .inl ⟨rfl, _, SqL.of hg1⟩, _, rfl, g, _, rfl, .inl (SqL.of hg1), _, rfl, (by rw [List.length_map]; exact log_small hgl), _, _, rfl, rfl, (by rw [List.length_map]; have := vN_len _ hgl; show 1 + _ ≤ sizeLine; exact Nat.le_of_lt (small1000 (by omega))), g, _, _, rfl, rfl, hg1, small1000 (by rw [List.length_map]; omega), ?_⟩
      rw [List.length_map]
      have hgn : NameOk (vN "g" gs.length) := g_ok _ hgl
      change tNext _ _ (upd H1 g (.lst (gs.map V.str ++ [.str (vN "g" gs.length)])))
      generalize vN "g" gs.length = gn at hgn ⊢
      have b2 : But2 m g H (upd H1 g (.lst (gs.map V.str ++ [.str gn]))) := (But2.of s1).put2
      have hg2 : upd H1 g (.lst (gs.map V.str ++ [.str gn])) g = some (.lst (gs.map V.str ++ [.str gn])) := upd_same
      have hm2 : upd H1 g (.lst (gs.map V.str ++ [.str gn])) m = some (.lst (ms.map V.str)) := by rw [upd_ne hmg]; exact hm1
      generalize upd H1 g (.lst (gs.map V.str ++ [.str gn])) = H2 at b2 hm2 hg2 ⊢
      obtain ⟨y, hy, ey⟩ := atI_strs (l := ms) (mod_lt (i := mx) hne).1 (mod_lt hne).2
      refine ⟨_, rfl, _, rfl, _, rfl, m, _, rfl, .inl (SqL.of hm2), _, _, rfl, rfl, (by rw [List.length_map]; show (0 : Int) < (ms.length : Int); omega), m, _, _, _, rfl, rfl, SqL.of hm2, (by rw [List.length_map]; exact ey), _, rfl, _, rfl, g, _, _, _, rfl, rfl, SqL.of hg2, atI_last _ _, (by show 3 ≤ sizeLine; decide), fun r gr => ?_⟩
      have s3 : Same H2 (upd H2 r (.tup [.str "give", .str y, .str gn])) := (Same.refl H2).new gr
      exact q r (.give y gn) ms (gs ++ [gn]) _ (b2.same s3) (s3 _ _ hm2) (by rw [List.map_append]; exact s3 _ _ hg2) (.inl rfl) (.inr ⟨gn, hgn, rfl⟩) upd_same trivial
    refine to_n ?_
    have hm1 := s1 _ _ hm
    refine if_and_new (a := decide (V.int kd = V.int 5)) (b := !(ms.map V.str).isEmpty) (fun Q' h => ⟨_, rfl, rfl, _, rfl, h⟩) (fun Q' h => ⟨_, rfl, (by show 0 ≤ sizeLine; decide), fun z gz => ⟨m, z, _, rfl, rfl, SqL.of (upd_keep hm1 gz), SqL.of upd_same, _, rfl, h z gz⟩⟩) (fun hb H2 s2 => ?_) (fun _ H2 s2 => ?_)
    · have hne : 0 < ms.length := by
        rw [Bool.and_eq_true] at hb
        cases ms with
        | nil => exact absurd hb.2 (by simp)
        | cons a b => simp
      have hm2 := s2 _ _ hm1
      obtain ⟨y, hy, ey⟩ := atI_strs (l := ms) (mod_lt (i := mx) hne).1 (mod_lt hne).2
      refine ⟨_, rfl, _, rfl, _, rfl, m, _, rfl, .inl (SqL.of hm2), _, _, rfl, rfl, (by rw [List.length_map]; show (0 : Int) < (ms.length : Int); omega), m, _, _, _, rfl, rfl, SqL.of hm2, (by rw [List.length_map]; exact ey), (by show 2 ≤ sizeLine; decide), fun t1 gt1 => ?_⟩
      refine ⟨_, rfl, _, rfl, (by show 2 ≤ sizeLine; decide), fun t2 gt2 => (⟨by show 2 ≤ sizeLine; decide, fun t gt => (⟨by show 2 ≤ sizeLine; decide, fun r gr => ?_⟩ : _ ∧ _)⟩ : _ ∧ _)⟩
      have s3 := (s1.trans s2).new (o := .tup [.int 1, .str y]) gt1
      have s4 := s3.new (o := .tup [.int (-1), .int mx]) gt2
      have s5 := s4.new (o := .tup [.ref t1, .ref t2]) gt
      have s6 := s5.new (o := .tup [.str "need", .ref t]) gr
      exact q r (.need [(1, .nam y), (-1, .num mx)]) ms gs _ (.of s6) (s6 _ _ hm) (s6 _ _ hg) (.inl rfl) (.inl rfl) ⟨t, upd_same, ⟨_, upd_keep upd_same gr, .cons ⟨t1, rfl, upd_keep (upd_keep (upd_keep upd_same gt2) gt) gr, hmo y hy⟩ (.cons ⟨t2, rfl, upd_keep (upd_keep upd_same gt) gr, ⟨hx0, by omega⟩⟩ .nil)⟩, by simp, by simp⟩ trivial
    refine to_n ?_
    have s12 := s1.trans s2
    refine s_if_p (a := decide (V.int kd = V.int 6)) (fun Q' h => ⟨_, rfl, rfl, _, rfl, h⟩) ?_
    refine ite2 (fun hc => ?_) (fun hc => ?_)
    · refine ⟨_, rfl, (by show 2 ≤ sizeLine; decide), fun t1 gt1 => (⟨by show 1 ≤ sizeLine; decide, fun t gt => (⟨by show 3 ≤ sizeLine; decide, fun r gr => ?_⟩ : _ ∧ _)⟩ : _ ∧ _)⟩
      have s3 := s12.new (o := .tup [.int 1, .int mx]) gt1
      have s4 := s3.new (o := .tup [.ref t1]) gt
      have s5 := s4.new (o := .tup [.str "say", .ref t, .non]) gr
      exact q r (.say [(1, .num mx)] none) ms gs _ (.of s5) (s5 _ _ hm) (s5 _ _ hg) (.inl rfl) (.inl rfl) ⟨t, upd_same, ⟨_, upd_keep upd_same gr, .cons ⟨t1, rfl, upd_keep (upd_keep upd_same gt) gr, ⟨hx0, by omega⟩⟩ .nil⟩, by simp, by simp⟩ trivial
    refine to_n ?_
    have hm3 := s12 _ _ hm
    refine ⟨_, rfl, .inl ⟨rfl, _, SqL.of hm3⟩, _, rfl, m, _, _, rfl, rfl, hm3, small1000 (by rw [List.length_map]; omega), ?_⟩
    have b2 : But2 m g H (upd H2 m (.lst (ms.map V.str ++ [.str ow]))) := (But2.of s12).put1
    have hm4 : upd H2 m (.lst (ms.map V.str ++ [.str ow])) m = some (.lst ((ms ++ [ow]).map V.str)) := by rw [upd_same, List.map_append]; rfl
    have hg4 : upd H2 m (.lst (ms.map V.str ++ [.str ow])) g = some (.lst (gs.map V.str)) := by rw [upd_ne hmg.symm]; exact s12 _ _ hg
    generalize upd H2 m (.lst (ms.map V.str ++ [.str ow])) = H3 at b2 hm4 hg4 ⊢
    refine ⟨_, rfl, rfl, _, rfl, ?_⟩
    refine ite2 (fun hc => ?_) (fun hc => ?_)
    · refine ⟨_, rfl, (by show 2 ≤ sizeLine; decide), fun r gr => ?_⟩
      have s3 : Same H3 (upd H3 r (.tup [.str "take", .str ow])) := (Same.refl H3).new gr
      exact q r (.take ow) (ms ++ [ow]) gs _ (b2.same s3) (s3 _ _ hm4) (s3 _ _ hg4) (.inr ⟨ow, hown, rfl⟩) (.inl rfl) upd_same trivial
    · refine ⟨_, rfl, _, rfl, (by show 2 ≤ sizeLine; decide), fun t1 gt1 => (⟨by show 1 ≤ sizeLine; decide, fun t gt => (⟨by show 3 ≤ sizeLine; decide, fun r gr => ?_⟩ : _ ∧ _)⟩ : _ ∧ _)⟩
      have s3 : Same H3 (upd H3 t1 (.tup [.int 1, .int mx])) := (Same.refl H3).new gt1
      have s4 := s3.new (o := .tup [.ref t1]) gt
      have s5 := s4.new (o := .tup [.str "set", .str ow, .ref t]) gr
      exact q r (.set ow [(1, .num mx)]) (ms ++ [ow]) gs _ (b2.same s5) (s5 _ _ hm4) (s5 _ _ hg4) (.inr ⟨ow, hown, rfl⟩) (.inl rfl) ⟨t, upd_same, ⟨_, upd_keep upd_same gr, .cons ⟨t1, rfl, upd_keep (upd_keep upd_same gt) gr, ⟨hx0, by omega⟩⟩ .nil⟩, by simp, by simp⟩ trivial
theorem call_tuple_ofF {X : Cx} : CallR X (.type "tuple") (fun xs H Q => ∃ p ys, xs = [.ref p] ∧ SqL X.K H p ys ∧ ∀ l o, H l = none → o.dict = none → Q (.ref l) (upd H l (.frz o (.tup ys)))) := by
  intro pins s σ H xs us Q I r h
  obtain ⟨p, ys, rfl, hq, q⟩ := h
  obtain ⟨u, rfl, rx⟩ := vals1 r
  cases rx
  obtain ⟨its, r', pl, hz⟩ := I.list hq
  have hlen := r'.length
  refine call_tuple_list pl.isList (fun h' kp => ?_) (by simp only [List.size_toArray] <;> omega)
  have I1 : Inv X pins σ H { s with heap := h' } := I.kept (t' := s.toks) kp
  have I2 : Inv X pins σ (upd H h'.objs.size (.frz { cls := .type "tuple", data := .seq its.toArray } (.tup ys))) { s with heap := h'.push { cls := .type "tuple", data := .seq its.toArray } } :=
    I1.laid (t' := s.toks) (fun b o e => Heap.get?_push_of_some _ e) (Nat.le_refl _) ⟨Heap.get?_push_size _ rfl, hz, its, r', ⟨_, Heap.get?_push_size _ rfl, rfl, _, rfl⟩⟩
  exact ⟨.ref h'.objs.size, _, I2, rfl, q _ _ (I1.hok.fresh (Nat.le_refl _)) rfl⟩
structure PsFit (ps : List Pt) : Prop where
  nd : (ps.map (·.1)).Nodup
  hi : ps.length ≤ 24
  rows : ∀ pt ∈ ps, pt.2.length ≤ 40
theorem comp_new {K : PySem.W.Frag} {a : Addr} {xs : List V} {Qh : Hp → Prop} {v : Option V} {H : Hp} {D : Addr} (hl : H a = some (.lst xs)) (hD : H D = none) (hx : xs.length ≤ 900)
    (q : ∀ (as : List Addr) (H' : Hp), Same H H' → H' D = some (.lst (as.map V.ref)) → as.length = xs.length → as.Nodup → (∀ b ∈ as, H b = none ∧ b ≠ D ∧ H' b = some (.lst [])) → Qh H') :
    ∃ W : Nat → Nat → L2.St → Hp → Prop, (∃ m, W 0 m [v] (upd H D (.lst []))) ∧ ∀ i m σ2 H2, W i m σ2 H2 →
      ((Itl K a).stop i H2 ∧ Qh H2) ∨ ((Itl K a).go i H2 ∧ ∃ N : L2.St → Hp → Prop, (∀ σ' H', N σ' H' → ∃ m', m' < m ∧ W (i + 1) m' σ' H') ∧ ∀ x H3, (Itl K a).yld i H2 x H3 → gName 0 x σ2 H3 fun σ4 H4 => tNoTest σ4 H4 fun b H5 =>
        if b = true then tLst tNil σ4 H5 fun y H6 => ∃ ys, H6 D = some (.lst ys) ∧ ys.length < sizeLine ∧ N σ4 (upd H6 D (.lst (ys ++ [y]))) else N σ4 H5) := by
  refine comp_by xs.length (fun i σ H2 => ∃ (v0 : Option V) (as : List Addr), σ = [v0] ∧ Same H H2 ∧ H2 D = some (.lst (as.map V.ref)) ∧ as.length = i ∧ as.Nodup ∧ ∀ b ∈ as, H b = none ∧ b ≠ D ∧ H2 b = some (.lst [])) ⟨v, [], rfl, (Same.refl H).new hD, upd_same, rfl, List.nodup_nil, by simp⟩ ?_ ?_
  · rintro i σ H2 hi ⟨v0, as, rfl, s2, hD2, hlen, hnd, hall⟩
    refine ⟨⟨xs, xs[i], SqL.of (s2 _ _ hl), by simp⟩, ?_⟩
    rintro x H3 ⟨rfl, _⟩
    refine ntG ?_
    refine ⟨(by show 0 ≤ sizeLine; decide), fun p gp => ?_⟩
    have hpD : p ≠ D := fun z => by rw [z, hD2] at gp; cases gp
    have hD3 : upd H3 p (.lst []) D = some (.lst (as.map V.ref)) := upd_keep hD2 gp
    refine ⟨_, hD3, small1000 (by rw [List.length_map]; omega), _, as ++ [p], rfl, (s2.new gp).put hD, ?_, by rw [List.length_append, hlen]; rfl, ?_, ?_⟩
    · rw [upd_same, List.map_append]; rfl
    · rw [List.nodup_append]
      refine ⟨hnd, by simp, fun b hb c hc e => ?_⟩
      rw [List.mem_singleton.mp hc] at e
      have := (hall b hb).2.2
      rw [e, gp] at this
      cases this
    · intro b hb
      rcases List.mem_append.mp hb with z | z
      · obtain ⟨h1, h2, h3⟩ := hall b z
        exact ⟨h1, h2, by rw [upd_ne h2]; exact upd_keep h3 gp⟩
      · rw [List.mem_singleton.mp z]
        exact ⟨s2.free gp, hpD, by rw [upd_ne hpD, upd_same]⟩
  · rintro σ H2 ⟨v0, as, rfl, s2, hD2, hlen, hnd, hall⟩
    exact ⟨⟨xs, SqL.of (s2 _ _ hl), Nat.le_refl _⟩, q as H2 s2 hD2 hlen hnd hall⟩
def InN (ns : List Str) : Rw → Prop
  | .bring p _ => p ∈ ns
  | .ask p _ => p ∈ ns
  | _ => True
theorem Toward.inN {ns : List Str} {o : Option Str} {rw : Rw} (h : Toward o rw) (ho : ∀ p, o = some p → p ∈ ns) : InN ns rw := by
  cases rw with
  | bring p _ => exact ho p h
  | ask p _ => exact ho p h
  | _ => trivial
def StrsIn (H : Hp) (j : Nat) (b : Addr) : Prop := ∃ ms : List Str, H b = some (.lst (ms.map V.str)) ∧ ms.length ≤ j ∧ ∀ x ∈ ms, NameOk x
structure Gr (ns : List Str) (H0 : Hp) (R M G : Addr) (ra ma ga : List Addr) (j : Nat) (H : Hp) : Prop where
  sm : Same H0 H
  hR : H R = some (.lst (ra.map V.ref))
  hM : H M = some (.lst (ma.map V.ref))
  hG : H G = some (.lst (ga.map V.ref))
  rw : ∀ b ∈ ra, ∃ vs rws, H b = some (.lst vs) ∧ RowsAt H vs rws ∧ rws.length ≤ 40 ∧ ∀ r ∈ rws, InN ns r
  mn : ∀ b ∈ ma, StrsIn H j b
  gv : ∀ b ∈ ga, StrsIn H j b
structure Ap (H0 : Hp) (R M G : Addr) (ra ma ga : List Addr) : Prop where
  fr : ∀ b, b ∈ ra ∨ b ∈ ma ∨ b ∈ ga → H0 b = none ∧ b ≠ R ∧ b ≠ M ∧ b ≠ G
  rm : ∀ b ∈ ra, b ∉ ma ∧ b ∉ ga
  mg : ∀ b ∈ ma, b ∉ ga
theorem StrsIn.more {H H' : Hp} {j : Nat} {b : Addr} {ms ms' : List Str} (h : H' b = some (.lst (ms'.map V.str))) (hl : ms.length ≤ j) (ho : ∀ x ∈ ms, NameOk x) (m : MoreOf ms ms') : StrsIn H' (j + 1) b := by
  rcases m with rfl | ⟨x, hx, rfl⟩
  · exact ⟨_, h, by omega, ho⟩
  · refine ⟨_, h, by rw [List.length_append]; simp; omega, fun y hy => ?_⟩
    rcases List.mem_append.mp hy with z | z
    · exact ho y z
    · rw [List.mem_singleton.mp z]; exact hx
theorem Gr.up {ns : List Str} {H0 : Hp} {R M G : Addr} {ra ma ga : List Addr} {j : Nat} {H : Hp} (g : Gr ns H0 R M G ra ma ga j H) : Gr ns H0 R M G ra ma ga (j + 1) H := ⟨g.sm, g.hR, g.hM, g.hG, g.rw, fun b hb => by
  obtain ⟨ms, h1, h2, h3⟩ := g.mn b hb
  exact ⟨ms, h1, by omega, h3⟩, fun b hb => by
  obtain ⟨ms, h1, h2, h3⟩ := g.gv b hb
  exact ⟨ms, h1, by omega, h3⟩⟩
theorem Gr.row {ns : List Str} {H0 : Hp} {R M G : Addr} {ra ma ga : List Addr} {j : Nat} {H H' : Hp} (g : Gr ns H0 R M G ra ma ga j H) (ap : Ap H0 R M G ra ma ga) {r m v x : Addr} {ms ms' gs gs' : List Str} {vs : List V} {rws : List Rw} {rw : Rw}
    (hr : r ∈ ra) (hm : m ∈ ma) (hv : v ∈ ga) (b2 : But2 m v H H') (hrH : H r = some (.lst vs)) (hrows : RowsAt H vs rws) (h40 : rws.length < 40) (hin : ∀ r ∈ rws, InN ns r)
    (hmH : H m = some (.lst (ms.map V.str))) (hms : ms.length ≤ j) (hmo : ∀ x ∈ ms, NameOk x) (hvH : H v = some (.lst (gs.map V.str))) (hgs : gs.length ≤ j) (hgo : ∀ x ∈ gs, NameOk x)
    (hm' : H' m = some (.lst (ms'.map V.str))) (hv' : H' v = some (.lst (gs'.map V.str))) (mm : MoreOf ms ms') (mg : MoreOf gs gs') (hx : RowAt H' x rw) (hxin : InN ns rw) :
    H' r = some (.lst vs) ∧ Gr ns H0 R M G ra ma ga (j + 1) (upd H' r (.lst (vs ++ [.ref x]))) := by
  have r1 : r ≠ m := fun z => (ap.rm r hr).1 (z ▸ hm)
  have r2 : r ≠ v := fun z => (ap.rm r hr).2 (z ▸ hv)
  have hr' : H' r = some (.lst vs) := b2 _ _ r1 r2 hrH
  have keep : ∀ c o, c ≠ m → c ≠ v → c ≠ r → H c = some o → upd H' r (.lst (vs ++ [.ref x])) c = some o := fun c o h1 h2 h3 h => by
    rw [upd_ne h3]
    exact b2 c o h1 h2 h
  have T1 : Tups H H' := fun c zs h => b2 c _ (fun z => by rw [z, hmH] at h; cases h) (fun z => by rw [z, hvH] at h; cases h) h
  have T2 : Tups H' (upd H' r (.lst (vs ++ [.ref x]))) := Tups.lst hr'
  have fr := fun c => (ap.fr c)
  refine ⟨hr', ⟨fun c o h => ?_, ?_, ?_, ?_, ?_, ?_, ?_⟩⟩
  · exact keep c o (fun z => by rw [z, (fr m (.inr (.inl hm))).1] at h; cases h) (fun z => by rw [z, (fr v (.inr (.inr hv))).1] at h; cases h) (fun z => by rw [z, (fr r (.inl hr)).1] at h; cases h) (g.sm c o h)
  · exact keep _ _ (fr m (.inr (.inl hm))).2.1.symm (fr v (.inr (.inr hv))).2.1.symm (fr r (.inl hr)).2.1.symm g.hR
  · exact keep _ _ (fr m (.inr (.inl hm))).2.2.1.symm (fr v (.inr (.inr hv))).2.2.1.symm (fr r (.inl hr)).2.2.1.symm g.hM
  · exact keep _ _ (fr m (.inr (.inl hm))).2.2.2.symm (fr v (.inr (.inr hv))).2.2.2.symm (fr r (.inl hr)).2.2.2.symm g.hG
  · intro b hb
    by_cases e : b = r
    · subst e
      refine ⟨_, rws ++ [rw], upd_same, Paired.snoc ((hrows.mono T1).mono T2) ⟨x, rfl, hx.mono T2⟩, by rw [List.length_append]; simp; omega, fun r hr => ?_⟩
      rcases List.mem_append.mp hr with z | z
      · exact hin r z
      · rw [List.mem_singleton.mp z]; exact hxin
    · obtain ⟨vs1, rws1, h1, h2, h3, h4⟩ := g.rw b hb
      exact ⟨vs1, rws1, keep _ _ (fun z => (ap.rm b hb).1 (z ▸ hm)) (fun z => (ap.rm b hb).2 (z ▸ hv)) e h1, (h2.mono T1).mono T2, h3, h4⟩
  · intro b hb
    have hbr : b ≠ r := fun z => (ap.rm r hr).1 (z ▸ hb)
    by_cases e : b = m
    · subst e
      exact StrsIn.more (H := H) (by rw [upd_ne hbr]; exact hm') hms hmo mm
    · obtain ⟨ms1, h1, h2, h3⟩ := g.mn b hb
      exact ⟨ms1, keep _ _ e (fun z => ap.mg b hb (z ▸ hv)) hbr h1, by omega, h3⟩
  · intro b hb
    have hbr : b ≠ r := fun z => (ap.rm r hr).2 (z ▸ hb)
    by_cases e : b = v
    · subst e
      exact StrsIn.more (H := H) (by rw [upd_ne hbr]; exact hv') hgs hgo mg
    · obtain ⟨ms1, h1, h2, h3⟩ := g.gv b hb
      exact ⟨ms1, keep _ _ (fun z => ap.mg m hm (z ▸ hb)) e hbr h1, by omega, h3⟩
theorem at_ref {l : List Addr} {i : Int} {n : Nat} (hn : l.length = n) (h0 : 0 ≤ i) (h1 : i < (n : Int)) : ∃ b ∈ l, atI (l.map V.ref) i = some (.ref b) := by
  obtain ⟨v, hv, e⟩ := atI_mem (l.map V.ref) h0 (by rw [List.length_map, hn]; exact h1)
  obtain ⟨b, hb, rfl⟩ := List.mem_map.mp hv
  exact ⟨b, hb, e⟩
def spParts (K : PySem.W.Frag) : Sp := fun vs H Q _ => ∃ (a : Addr) (sc : List Int) (f0 d : Int) (nl : Addr) (ns : List Str), vs = [.ref a, .int f0, .ref nl, .int d] ∧ SqL K H a (sc.map V.int) ∧ sc.length ≤ 63 ∧ 0 ≤ f0 ∧ f0 ≤ 10 ∧ H nl = some (.lst (ns.map V.str)) ∧ 1 ≤ ns.length ∧ ns.length ≤ 24 ∧ ns.Nodup ∧
  ∀ (x : Addr) (ps : List Pt) (H' : Hp), Same H H' → PartsF H' x ps → ps.map (·.1) = ns → PsFit ps → (∀ pt ∈ ps, ∀ r ∈ pt.2, InN ns r) → Q (.ref x) H'
theorem ok_parts (T : Txt K mg) : L2.Cl P w K mg base 2 "_law_parts" ["_law_script", "_law_first", "_law_names_here", "_law_mode"] (spParts K) := by
  have C_law_mixed := ok_mixed (P := P) (w := w) (base := base) T
  have C_law_other := ok_other (P := P) (w := w) (base := base) T
  have C_law_row := ok_row (P := P) (w := w) (base := base) T
  refine Cl.of T.d_law_parts sc_law_parts (fun vs H Q E h => ?_) (fun _ _ _ _ _ _ us hl => match us, hl with | [_, _, _, _], _ => rfl) (fun f cdv A outer s H vs Q E hr h => ?_)
  · obtain ⟨a, sc, f0, d, nl, ns, rfl, _⟩ := h
    rfl
  · obtain ⟨a, sc, f0, d, nl, ns, rfl, hS, hsc, hf0, hf1, hnl, hn1, hn2, hnd, q⟩ := h
    refine ⟨_, (pss_cons (ps_set (i := 4) sc_law_parts.nd rfl (Or.inl rfl) (pe_callB call_len_seq (by rfl) T.n_len PySem.boot_len (pa_cons (pv 2) pa_nil)))
      (pss_cons (ps_setC (j := 5) (M := ["_law_name"]) (ρ := [none]) (defScope s_law_parts) ["_law_script", "_law_first", "_law_names_here", "_law_mode", "_law_many", "_law_rows", "_law_mine", "_law_given", "_law_k", "_law_mix", "_law_here", "_law_at", "_law_other_here", "_law_kind"] ⟨rfl, by decide +kernel, by decide +kernel, by decide +kernel, rfl, by decide +kernel, by decide +kernel⟩ sc_law_parts.nd rfl (Or.inl rfl) (pi_list (pv 2)) (fun _ _ _ _ _ _ => (pg_name (i := 0) (show (["_law_name"] : List Str).Nodup by decide +kernel) rfl (Or.inl rfl))) (fun _ _ _ _ _ _ => pts_nil) (fun _ _ _ _ _ _ => (pe_lst pa_nil)))
      (pss_cons (ps_setC (j := 6) (M := ["_law_name"]) (ρ := [none]) (defScope s_law_parts) ["_law_script", "_law_first", "_law_names_here", "_law_mode", "_law_many", "_law_rows", "_law_mine", "_law_given", "_law_k", "_law_mix", "_law_here", "_law_at", "_law_other_here", "_law_kind"] ⟨rfl, by decide +kernel, by decide +kernel, by decide +kernel, rfl, by decide +kernel, by decide +kernel⟩ sc_law_parts.nd rfl (Or.inl rfl) (pi_list (pv 2)) (fun _ _ _ _ _ _ => (pg_name (i := 0) (show (["_law_name"] : List Str).Nodup by decide +kernel) rfl (Or.inl rfl))) (fun _ _ _ _ _ _ => pts_nil) (fun _ _ _ _ _ _ => (pe_lst pa_nil)))
      (pss_cons (ps_setC (j := 7) (M := ["_law_name"]) (ρ := [none]) (defScope s_law_parts) ["_law_script", "_law_first", "_law_names_here", "_law_mode", "_law_many", "_law_rows", "_law_mine", "_law_given", "_law_k", "_law_mix", "_law_here", "_law_at", "_law_other_here", "_law_kind"] ⟨rfl, by decide +kernel, by decide +kernel, by decide +kernel, rfl, by decide +kernel, by decide +kernel⟩ sc_law_parts.nd rfl (Or.inl rfl) (pi_list (pv 2)) (fun _ _ _ _ _ _ => (pg_name (i := 0) (show (["_law_name"] : List Str).Nodup by decide +kernel) rfl (Or.inl rfl))) (fun _ _ _ _ _ _ => pts_nil) (fun _ _ _ _ _ _ => (pe_lst pa_nil)))
      (pss_cons (ps_for PassesOwn.never rfl (pi_range2 (by rfl) T.n_range (pa_cons (pv 1) (pa_cons (pe_callB (call_min2 rfl) (by rfl) T.n_min boot_min (pa_cons (pe_callB call_len_seq (by rfl) T.n_len PySem.boot_len (pa_cons (pv 0) pa_nil)) (pa_cons (pe_op op_add (pv 1) pe_int) pa_nil))) pa_nil))) (pg_name (i := 8) sc_law_parts.nd rfl (Or.inl rfl))
        (pss_cons (ps_set (i := 9) sc_law_parts.nd rfl (Or.inl rfl) (pe_fn C_law_mixed hr (by rfl) (pa_cons (pe_ix ix_list (pv 0) (pv 8) (fun _ _ => rfl)) (pa_cons (pv 8) (pa_cons pe_int pa_nil)))))
        (pss_cons (ps_set (i := 10) sc_law_parts.nd rfl (Or.inl rfl) (pe_op op_mod (pe_ix ix_list (pv 0) (pv 8) (fun _ _ => rfl)) (pv 4)))
        (pss_cons (ps_set (i := 11) sc_law_parts.nd rfl (Or.inl rfl) (pe_fn C_law_other hr (by rfl) (pa_cons (pv 10) (pa_cons (pv 4) (pa_cons (pv 9) (pa_cons (pv 3) pa_nil))))))
        (pss_one (ps_if (pt_cmpR op_lt (pe_callB call_len_seq (by rfl) T.n_len PySem.boot_len (pa_cons (pe_ix ix_list (pv 5) (pv 10) (fun _ _ => rfl)) pa_nil)) pe_int (nomark _))
          (pss_cons (ps_set (i := 12) sc_law_parts.nd rfl (Or.inl rfl) (pe_ifExp (pt_cmpR op_ne (pv 11) (pv 10) (nomark _)) (pe_ix ix_list (pv 2) (pv 11) (fun _ _ => rfl)) pe_non))
          (pss_cons (ps_set (i := 13) sc_law_parts.nd rfl (Or.inl rfl) (pe_op op_mod (pe_op op_fdiv (pe_ix ix_list (pv 0) (pv 8) (fun _ _ => rfl)) (pv 4)) pe_int))
          (pss_one (ps_expr (pe_bm PySem.F.plainAttrs_list PySem.F.slot_list_append PySem.F.type_list_append mt_append (pe_ix ix_list (pv 5) (pv 10) (fun _ _ => rfl)) (pa_cons (pe_fn C_law_row hr (by rfl) (pa_cons (pv 13) (pa_cons (pe_op op_fdiv (pv 9) pe_int) (pa_cons (pv 12) (pa_cons (pe_ix ix_list (pv 6) (pv 10) (fun _ _ => rfl)) (pa_cons (pe_ix ix_list (pv 7) (pv 10) (fun _ _ => rfl)) (pa_cons (pe_ix ix_list (pv 7) (pv 11) (fun _ _ => rfl)) pa_nil))))))) pa_nil)))))) pss_nil))))))
      (pss_one (ps_ret (pe_callTy call_tuple_ofF (by rfl) T.n_tuple boot_tuple (pa_cons (pe_comp (M := ["_law_name", "_law_some_here"]) (ρ := [none, none]) (defScope s_law_parts) ["_law_script", "_law_first", "_law_names_here", "_law_mode", "_law_many", "_law_rows", "_law_mine", "_law_given", "_law_k", "_law_mix", "_law_here", "_law_at", "_law_other_here", "_law_kind"] ⟨rfl, by decide +kernel, by decide +kernel, by decide +kernel, rfl, by decide +kernel, by decide +kernel⟩ (pi_zipL (by rfl) T.n_zip (pa_cons (pv 2) (pa_cons (pv 5) pa_nil))) (fun _ _ _ _ _ _ => (pg_tupK (K := K) (n := 2) rfl rfl (pgs_cons (pg_name (i := 0) (show (["_law_name", "_law_some_here"] : List Str).Nodup by decide +kernel) rfl (Or.inl rfl)) (pgs_cons (pg_name (i := 1) (show (["_law_name", "_law_some_here"] : List Str).Nodup by decide +kernel) rfl (Or.inl rfl)) pgs_nil)))) (fun _ _ _ _ _ _ => pts_nil) (fun _ _ _ _ _ _ => (pe_tup (pa_cons (pv 0) (pa_cons (pe_callTy (call_tuple_ofK (K := K) rfl) (by rfl) T.n_tuple boot_tuple (pa_cons (pv 1) pa_nil)) pa_nil))))) pa_nil))))))))), ?_⟩
    have hxl : (ns.map V.str).length ≤ 900 := by rw [List.length_map]; omega
    refine ⟨_, rfl, nl, _, rfl, .inl (SqL.of hnl), ?_⟩
    refine ⟨_, rfl, nl, rfl, ⟨_, SqL.of hnl⟩, fun R gR => comp_new (K := K) hnl gR hxl fun ra H1 s1 hR1 hra _ hraA => ?_⟩
    have hnl1 := s1 _ _ hnl
    refine ⟨_, rfl, nl, rfl, ⟨_, SqL.of hnl1⟩, fun M gM => comp_new (K := K) hnl1 gM hxl fun ma H2 s2 hM2 hma _ hmaA => ?_⟩
    have hnl2 := s2 _ _ hnl1
    refine ⟨_, rfl, nl, rfl, ⟨_, SqL.of hnl2⟩, fun G gG => comp_new (K := K) hnl2 gG hxl fun ga H3 s3 hG3 hga _ hgaA => ?_⟩
    rw [List.length_map] at hra hma hga
    have ne_some : ∀ {H' : Hp} {b c : Addr} {o : HO}, H' b = none → H' c = some o → b ≠ c := fun h1 h2 z => by rw [z, h2] at h1; cases h1
    have ap : Ap H R M G ra ma ga := by
      have raH : ∀ b ∈ ra, H b = none ∧ H1 b = some (.lst []) ∧ b ≠ R := fun b hb => ⟨(hraA b hb).1, (hraA b hb).2.2, (hraA b hb).2.1⟩
      have maH : ∀ b ∈ ma, H b = none ∧ H1 b = none ∧ H2 b = some (.lst []) ∧ b ≠ M := fun b hb => ⟨s1.free (hmaA b hb).1, (hmaA b hb).1, (hmaA b hb).2.2, (hmaA b hb).2.1⟩
      have gaH : ∀ b ∈ ga, H b = none ∧ H1 b = none ∧ H2 b = none ∧ b ≠ G := fun b hb => ⟨s1.free (s2.free (hgaA b hb).1), s2.free (hgaA b hb).1, (hgaA b hb).1, (hgaA b hb).2.1⟩
      refine ⟨fun b hb => ?_, fun b hb => ⟨fun z => ?_, fun z => ?_⟩, fun b hb z => ?_⟩
      · rcases hb with z | z | z
        · obtain ⟨h1, h2, h3⟩ := raH b z
          exact ⟨h1, h3, (ne_some gM h2).symm, (ne_some gG (s2 _ _ h2)).symm⟩
        · obtain ⟨h1, h2, h3, h4⟩ := maH b z
          exact ⟨h1, ne_some h2 hR1, h4, (ne_some gG h3).symm⟩
        · obtain ⟨h1, h2, h3, h4⟩ := gaH b z
          exact ⟨h1, ne_some h2 hR1, ne_some h3 hM2, h4⟩
      · exact ne_some (maH b z).2.1 (raH b hb).2.1 rfl
      · exact ne_some (gaH b z).2.1 (raH b hb).2.1 rfl
      · exact ne_some (gaH b z).2.2.1 (maH b hb).2.2.1 rfl
    have g0 : Gr ns H R M G ra ma ga 0 H3 := ⟨(s1.trans s2).trans s3, s3 _ _ (s2 _ _ hR1), s3 _ _ hM2, hG3, fun b hb => ⟨[], [], s3 _ _ (s2 _ _ (hraA b hb).2.2), .nil, by simp, by simp⟩, fun b hb => ⟨[], s3 _ _ (hmaA b hb).2.2, by simp, by simp⟩, fun b hb => ⟨[], (hgaA b hb).2.2, by simp, by simp⟩⟩
    have hS' : ∀ {H' : Hp}, Same H H' → SqL K H' a (sc.map V.int) := fun s => s.seq hS
    have hnl' : ∀ {H' : Hp}, Same H H' → H' nl = some (.lst (ns.map V.str)) := fun s => s _ _ hnl
    refine ⟨_, rfl, _, rfl, a, _, rfl, .inl (hS' g0.sm), _, rfl, _, _, rfl, rfl, _, _, rfl, _, _, rfl, ⟨by omega, by omega, ?_, ?_⟩, for_range (fun i σ H5 => ∃ v8 v9 v10 v11 v12 v13 : Option V, σ = [some (.ref a), some (.int f0), some (.ref nl), some (.int d), some (.int (ns.length : Int)), some (.ref R), some (.ref M), some (.ref G), v8, v9, v10, v11, v12, v13] ∧ Gr ns H R M G ra ma ga i H5)
      ⟨none, none, none, none, none, none, by rw [List.length_map]; rfl, g0⟩ ?_ ?_⟩
    · rw [List.length_map]; split <;> omega
    · rw [List.length_map]; split <;> omega
    · rintro i σ H5 hi ⟨v8, v9, v10, v11, v12, v13, rfl, g5⟩
      rw [List.length_map] at hi
      have hik : f0 + (i : Int) < (sc.length : Int) ∧ i < 60 := by
        split at hi <;> omega
      have hat : atI (sc.map V.int) (f0 + (i : Int)) = some (.int (sc.getD (f0 + (i : Int)).toNat 0)) := atI_map V.int sc 0 (by omega) hik.1
      generalize sc.getD (f0 + (i : Int)).toNat 0 = c at hat
      have hn0 : (0 : Int) < (ns.length : Int) := by omega
      refine ⟨_, rfl, _, rfl, a, _, _, _, rfl, rfl, hS' g5.sm, hat, _, rfl, c, f0 + (i : Int), 65521, rfl, by omega, by omega, by decide, ?_⟩
      have hmx : 0 ≤ mixM c (f0 + (i : Int)) 65521 ∧ mixM c (f0 + (i : Int)) 65521 < 65521 := by unfold mixM; omega
      generalize mixM c (f0 + (i : Int)) 65521 = mx at hmx ⊢
      have hh := mod_lt (i := c) (n := ns.length) (by omega)
      refine ⟨_, rfl, _, rfl, a, _, _, _, rfl, rfl, hS' g5.sm, hat, _, rfl, _, _, rfl, rfl, hn0, ?_⟩
      refine ⟨_, rfl, _, rfl, _, rfl, _, rfl, c % (ns.length : Int), (ns.length : Int), mx, d, rfl, hh.1, hh.2, by omega, fun at' ha0 ha1 => ?_⟩
      obtain ⟨rb, hrb, erb⟩ := at_ref hra hh.1 hh.2
      obtain ⟨mb, hmb, emb⟩ := at_ref hma hh.1 hh.2
      obtain ⟨gb, hgb, egb⟩ := at_ref hga hh.1 hh.2
      obtain ⟨ub, hub, eub⟩ := at_ref hga ha0 ha1
      obtain ⟨vs, rws, hrbH, hrows, h40, hin⟩ := g5.rw rb hrb
      obtain ⟨ms, hmbH, hms, hmo⟩ := g5.mn mb hmb
      obtain ⟨gs, hgbH, hgs, hgo⟩ := g5.gv gb hgb
      obtain ⟨us, hubH, hus, huo⟩ := g5.gv ub hub
      have hvl : vs.length = rws.length := Paired.length hrows
      refine ⟨_, rfl, _, rfl, R, _, _, _, rfl, rfl, SqL.of g5.hR, erb, rb, _, rfl, .inl (SqL.of hrbH), _, _, rfl, rfl, _, rfl, ?_⟩
      refine ite2 (fun hlt => ?_) (fun hlt => ?_)
      · have hlt' : rws.length < 40 := by
          have := of_decide_eq_true hlt
          omega
        obtain ⟨o, ho, hoE⟩ : ∃ o : Option Str, (∀ p, o = some p → p ∈ ns) ∧ ((at' = c % (ns.length : Int) ∧ o = none) ∨ (at' ≠ c % (ns.length : Int) ∧ ∃ p, o = some p ∧ atI (ns.map V.str) at' = some (.str p))) := by
          by_cases e : at' = c % (ns.length : Int)
          · exact ⟨none, (fun p z => by cases z), .inl ⟨e, rfl⟩⟩
          · obtain ⟨y, hy, ey⟩ := atI_strs (l := ns) ha0 ha1
            exact ⟨some y, (fun p z => by cases z; exact hy), .inr ⟨e, y, rfl, ey⟩⟩
        refine set_ifexp (a := !decide (V.int at' = V.int (c % (ns.length : Int)))) (x := optV o) (fun Q' h => ⟨_, rfl, _, rfl, rfl, _, rfl, h⟩) (fun hb Q' h => ?_) (fun hb Q' h => ?_) ?_
        · rcases hoE with ⟨e, _⟩ | ⟨_, p, rfl, ep⟩
          · rw [e] at hb; simp at hb
          · exact ⟨_, rfl, _, rfl, nl, _, _, _, rfl, rfl, SqL.of (hnl' g5.sm), ep, h⟩
        · rcases hoE with ⟨_, rfl⟩ | ⟨e, _⟩
          · exact h
          · exact absurd hb (by simp [e])
        refine ⟨_, rfl, _, rfl, a, _, _, _, rfl, rfl, hS' g5.sm, hat, _, rfl, _, _, rfl, rfl, ⟨hn0, by omega⟩, _, _, rfl, rfl, (by show (0 : Int) < 8; decide), ?_⟩
        refine ⟨_, rfl, _, rfl, R, _, _, _, rfl, rfl, SqL.of g5.hR, erb, .inl ⟨rfl, _, SqL.of hrbH⟩, _, rfl, _, rfl, _, _, rfl, rfl, ⟨by decide, by decide⟩, _, rfl, _, rfl, _, rfl, M, _, _, _, rfl, rfl, SqL.of g5.hM, emb, _, rfl, _, rfl, G, _, _, _, rfl, rfl, SqL.of g5.hG, egb, _, rfl, _, rfl, G, _, _, _, rfl, rfl, SqL.of g5.hG, eub, ?_⟩
        refine ⟨_, mx / 7, o, mb, gb, ub, ms, gs, us, rfl, by omega, by omega, hmbH, hgbH, hubH, fun z => ap.mg mb hmb (z ▸ hgb), fun z => ap.mg mb hmb (z ▸ hub), by omega, by omega, by omega, hmo, hgo, huo, fun x rw ms' gs' H6 b2 hm' hg' mm mg hx ht => ?_⟩
        obtain ⟨hr6, g6⟩ := g5.row ap hrb hmb hgb b2 hrbH hrows hlt' hin hmbH hms hmo hgbH hgs hgo hm' hg' mm mg hx (ht.inN ho)
        exact ⟨rb, _, _, rfl, rfl, hr6, small1000 (by omega), _, _, _, _, _, _, rfl, g6⟩
      · exact ⟨_, _, _, _, _, _, rfl, g5.up⟩
    · rintro σ H5 ⟨v8, v9, v10, v11, v12, v13, rfl, g5⟩
      generalize Int.toNat _ = jj at g5
      have hnl5 := hnl' g5.sm
      refine ⟨_, rfl, _, rfl, nl, R, rfl, ⟨_, SqL.of hnl5⟩, ⟨_, SqL.of g5.hR⟩, fun D gD => ?_⟩
      refine comp_by ns.length (fun i σ H6 => ∃ (v0 v1 : Option V) (us : List V) (ps : List Pt), σ = [v0, v1] ∧ Same H5 H6 ∧ H6 D = some (.lst us) ∧ Paired (PartAt H6) us ps ∧ ps.map (·.1) = ns.take i ∧ (∀ pt ∈ ps, pt.2.length ≤ 40 ∧ ∀ r ∈ pt.2, InN ns r)) ⟨_, _, [], [], rfl, (Same.refl H5).new gD, upd_same, .nil, by simp, by simp⟩ ?_ ?_
      · rintro i σ H6 hi ⟨v0, v1, us, ps, rfl, s6, hD6, hps, hnm, hall⟩
        have hir : i < ra.length := by omega
        have e1 : (ns.map V.str)[i]? = some (.str ns[i]) := by simp [hi]
        have e2 : (ra.map V.ref)[i]? = some (.ref ra[i]) := by simp [hir]
        refine ⟨⟨_, _, _, _, SqL.of (s6 _ _ hnl5), SqL.of (s6 _ _ g5.hR), e1, e2⟩, ?_⟩
        rintro x H7 ⟨p, u, v, hu, hv, gp, rfl, rfl⟩
        have eu : u = .str ns[i] := Option.some.inj ((hu _ (SqL.of (s6 _ _ hnl5))).symm.trans e1)
        have ev : v = .ref ra[i] := Option.some.inj ((hv _ (SqL.of (s6 _ _ g5.hR))).symm.trans e2)
        subst eu ev
        obtain ⟨vs, rws, hrH, hrows, h40, hin⟩ := g5.rw ra[i] (List.getElem_mem hir)
        have s7 : Same H6 (upd H6 p (.tup [.str ns[i], .ref ra[i]])) := (Same.refl H6).new gp
        refine ⟨p, _, rfl, SqT.of upd_same, rfl, _, _, rfl, _, _, rfl, rfl, nt ?_⟩
        have hr7 := s7 _ _ (s6 _ _ hrH)
        refine ⟨_, rfl, _, rfl, ra[i], _, rfl, .inl ⟨SqL.of hr7, fun t gt => ⟨by show 2 ≤ sizeLine; decide, fun tp gtp => ?_⟩⟩⟩
        have s8 := s7.new (o := .tup vs) gt
        have s9 := s8.new (o := .tup [.str ns[i], .ref t]) gtp
        have hul : us.length = i := by
          have h1 := Paired.length hps
          have h2 := congrArg List.length hnm
          rw [List.length_map, List.length_take] at h2
          omega
        have hD9 := s9 _ _ hD6
        have T9 := Tups.lst (ys := us ++ [.ref tp]) hD9
        have Trows : Tups H5 _ := (s6.trans s9).tups.trans T9
        refine ⟨us, hD9, small1000 (by omega), _, _, us ++ [.ref tp], ps ++ [(ns[i], rws)], rfl, (s6.trans s9).put gD, upd_same, Paired.snoc (Paired.mapP hps fun _ _ z => z.mono (s9.tups.trans T9)) ⟨tp, t, vs, rfl, T9 _ _ upd_same, T9 _ _ (upd_keep upd_same gtp), hrows.mono Trows⟩, ?_, ?_⟩
        · rw [List.map_append, hnm, take_succ_get (x := ns[i]) (by simp)]
          rfl
        · intro pt hpt
          rcases List.mem_append.mp hpt with z | z
          · exact hall pt z
          · rw [List.mem_singleton.mp z]; exact ⟨h40, hin⟩
      · rintro σ H6 ⟨v0, v1, us, ps, rfl, s6, hD6, hps, hnm, hall⟩
        refine ⟨⟨_, _, SqL.of (s6 _ _ hnl5), SqL.of (s6 _ _ g5.hR), by simp, by simp [hra]⟩, ?_⟩
        rw [List.take_length] at hnm
        refine ⟨D, _, rfl, SqL.of hD6, fun x ob gx hob => ?_⟩
        have s7 : Same H6 (upd H6 x (.frz ob (.tup us))) := (Same.refl H6).new gx
        have hpl : ps.length = ns.length := by rw [← hnm, List.length_map]
        exact q x ps _ ((g5.sm.trans s6).trans s7) ⟨ob, us, upd_same, hob, Paired.mapP hps fun _ _ z => z.mono s7.tups⟩ hnm ⟨by rw [hnm]; exact hnd, by omega, fun pt hpt => (hall pt hpt).1⟩ fun pt hpt => (hall pt hpt).2
theorem inV_strs (x : Str) : ∀ l : List Str, inV (.str x) (l.map V.str) = decide (x ∈ l)
  | [] => by simp [inV]
  | a :: r => by
    have ih := inV_strs x r
    unfold inV at ih ⊢
    rw [List.map_cons, List.any_cons, ih]
    by_cases e : a = x
    · subst e; simp [eqV]
    · have h2 : ¬ x = a := fun z => e z.symm
      simp [eqV, e, h2]
theorem strs_flat : ∀ l : List Str, (l.map V.str).all flatV = true
  | [] => rfl
  | a :: r => by rw [List.map_cons, List.all_cons, strs_flat r]; rfl
theorem erase_map : ∀ (l : List Str) (k : Nat), (l.map V.str).eraseIdx k = (l.eraseIdx k).map V.str
  | [], _ => rfl
  | a :: r, 0 => rfl
  | a :: r, k + 1 => by
    show V.str a :: (r.map V.str).eraseIdx k = V.str a :: (r.eraseIdx k).map V.str
    rw [erase_map r k]
theorem erase_len : ∀ (l : List Str) (k : Nat), k < l.length → (l.eraseIdx k).length + 1 = l.length
  | [], _, h => by simp at h
  | a :: r, 0, _ => rfl
  | a :: r, k + 1, h => by
    have := erase_len r k (by simpa using h)
    show (r.eraseIdx k).length + 1 + 1 = r.length + 1
    omega
theorem g_if_any {t : TT} {te : TE} {R : TS} {D : Ends} {r : VK} {b k : L2.St → Hp → Prop} {i : Nat} {v : V} {σ : L2.St} {H : Hp} {Pv : V → Prop} (ht : ∀ Q : Bool → Hp → Prop, (∀ a, Q a H) → t (σ.set i (some v)) H Q) (hA : ∀ Q : VK, (∀ x, Pv x → Q x H) → te (σ.set i (some v)) H Q) (hv : Pv v) (h : ∀ y, Pv y → R D (σ.set i (some y)) H) : gName i v σ H (Ends.nx ⟨tSeq (tIfS t (tAsg te (gName i)) tNext) R D, r, b, k⟩) := by
  refine ht _ fun a => ?_
  cases a with
  | true =>
    refine iteT (hA _ fun x hx => ?_)
    show R D ((σ.set i (some v)).set i (some x)) H
    rw [List.set_set]
    exact h x hx
  | false => exact iteF (h v hv)
def spSome : Sp := fun vs H Q _ => ∃ (nl : Addr) (c m : Int) (ns : List Str), vs = [.ref nl, .int c, .int m] ∧ H nl = some (.lst (ns.map V.str)) ∧ 1 ≤ ns.length ∧ ns.length ≤ 24 ∧ 1 ≤ m ∧
  ∀ (t : Addr) (fs : List Str) (H' : Hp), Same H H' → H' t = some (.tup (fs.map V.str)) → fs.length ≤ 24 → (∀ x ∈ fs, x ∈ ns) → Q (.ref t) H'
theorem ok_some (T : Txt K mg) : L2.Cl P w K mg base 2 "_law_some" ["_law_names_here", "_law_cell", "_law_most"] spSome := by
  have C_law_mixed := ok_mixed (P := P) (w := w) (base := base) T
  refine Cl.of T.d_law_some sc_law_some (fun vs H Q E h => ?_) (fun _ _ _ _ _ _ us hl => match us, hl with | [_, _, _], _ => rfl) (fun f cdv A outer s H vs Q E hr h => ?_)
  · obtain ⟨nl, c, m, ns, rfl, _⟩ := h
    rfl
  · obtain ⟨nl, c, m, ns, rfl, hnl, hn1, hn2, hm, q⟩ := h
    refine ⟨_, (pss_cons (ps_set (i := 3) sc_law_some.nd rfl (Or.inl rfl) (pe_callTy call_list_of (by rfl) T.n_list boot_list (pa_cons (pv 0) pa_nil)))
      (pss_cons (ps_set (i := 4) sc_law_some.nd rfl (Or.inl rfl) (pe_lst pa_nil))
      (pss_cons (ps_for PassesOwn.never rfl (pi_range1 (by rfl) T.n_range (pa_cons (pe_op op_add pe_int (pe_op op_mod (pv 1) (pe_callB (call_min2 rfl) (by rfl) T.n_min boot_min (pa_cons (pv 2) (pa_cons (pe_callB call_len_seq (by rfl) T.n_len PySem.boot_len (pa_cons (pv 0) pa_nil)) pa_nil))))) pa_nil)) (pg_name (i := 5) sc_law_some.nd rfl (Or.inl rfl))
        (pss_one (ps_expr (pe_bm PySem.F.plainAttrs_list PySem.F.slot_list_append PySem.F.type_list_append mt_append (pv 4) (pa_cons (pe_bm PySem.F.plainAttrs_list PySem.F.slot_list_pop PySem.F.type_list_pop mt_popAt (pv 3) (pa_cons (pe_op op_mod (pe_fn C_law_mixed hr (by rfl) (pa_cons (pv 1) (pa_cons (pe_op op_add (pv 5) pe_int) (pa_cons pe_int pa_nil)))) (pe_callB call_len_seq (by rfl) T.n_len PySem.boot_len (pa_cons (pv 3) pa_nil))) pa_nil)) pa_nil)))))
      (pss_one (ps_ret (pe_callTy call_tuple_of (by rfl) T.n_tuple boot_tuple (pa_cons (pv 4) pa_nil))))))), ?_⟩
    refine ⟨_, rfl, nl, _, rfl, .inl (SqL.of hnl), fun L gL => ?_⟩
    have s1 : Same H (upd H L (.lst (ns.map V.str))) := (Same.refl H).new gL
    have hL1 : upd H L (.lst (ns.map V.str)) L = some (.lst (ns.map V.str)) := upd_same
    generalize upd H L (.lst (ns.map V.str)) = H1 at s1 hL1 ⊢
    refine ⟨(by show 0 ≤ sizeLine; decide), fun F gF => ?_⟩
    have hFL : F ≠ L := fun z => by rw [z, hL1] at gF; cases gF
    have s2 : Same H (upd H1 F (.lst [])) := s1.new gF
    have gFH : H F = none := s1.free gF
    have hb : ∃ k : Nat, (1 + c % (if ((ns.map V.str).length : Int) < m then ((ns.map V.str).length : Int) else m)).toNat = k ∧ k ≤ ns.length ∧ 0 < (if ((ns.map V.str).length : Int) < m then ((ns.map V.str).length : Int) else m) ∧ (1 + c % (if ((ns.map V.str).length : Int) < m then ((ns.map V.str).length : Int) else m)) < 100 ∧ 0 ≤ (1 + c % (if ((ns.map V.str).length : Int) < m then ((ns.map V.str).length : Int) else m)) := by
      rw [List.length_map]
      generalize hz : (if (ns.length : Int) < m then (ns.length : Int) else m) = z
      have hz1 : 0 < z ∧ z ≤ (ns.length : Int) := by
        split at hz <;> omega
      have h1 := Int.emod_nonneg c (show z ≠ 0 by omega)
      have h2 := Int.emod_lt_of_pos c hz1.1
      exact ⟨_, rfl, by omega, hz1.1, by omega, by omega⟩
    obtain ⟨k, hk, hkn, hzp, hz100, hz0⟩ := hb
    refine ⟨_, rfl, _, rfl, _, rfl, nl, _, rfl, .inl (SqL.of (s2 _ _ hnl)), _, _, rfl, _, _, rfl, rfl, hzp, _, _, rfl, rfl, _, rfl, by omega, by omega, ?_⟩
    rw [hk]
    refine for_range (fun i σ H5 => ∃ (v5 : Option V) (ls fs : List Str), σ = [some (.ref nl), some (.int c), some (.int m), some (.ref L), some (.ref F), v5] ∧ Same H H5 ∧ H5 L = some (.lst (ls.map V.str)) ∧ H5 F = some (.lst (fs.map V.str)) ∧ ls.length + i = ns.length ∧ fs.length = i ∧ (∀ x ∈ ls, x ∈ ns) ∧ (∀ x ∈ fs, x ∈ ns))
      ⟨none, ns, [], rfl, s2, upd_keep hL1 gF, upd_same, rfl, rfl, fun x hx => hx, by simp⟩ ?_ ?_
    · rintro i σ H5 hi ⟨v5, ls, fs, rfl, s5, hL5, hF5, hlen, hfl, hls, hfs⟩
      have hpos : 0 < ls.length := by omega
      refine ⟨_, rfl, .inl ⟨rfl, _, SqL.of hF5⟩, _, rfl, .inl ⟨rfl, _, SqL.of hL5⟩, _, rfl, _, rfl, _, _, rfl, rfl, c, 0 + (i : Int) + 1, 65537, rfl, by omega, by omega, by decide, ?_⟩
      generalize mixM c (0 + (i : Int) + 1) 65537 = mx
      obtain ⟨y, hy, ey⟩ := atI_strs (l := ls) (mod_lt (i := mx) hpos).1 (mod_lt hpos).2
      obtain ⟨j, hj1, hj2, hj3, _⟩ := atI_get ey
      rw [List.length_map] at hj3
      have hmm := mod_lt (i := mx) hpos
      refine ⟨_, rfl, L, _, rfl, .inl (SqL.of hL5), _, _, rfl, rfl, (by rw [List.length_map]; show (0 : Int) < (ls.length : Int); omega), L, _, _, j, _, rfl, rfl, hL5, (by rw [List.length_map]; omega), (by rw [List.length_map]; omega), (by have := hj1; rw [List.length_map] at this ⊢; exact this), hj2, ?_⟩
      rw [erase_map]
      have hF6 : upd H5 L (.lst ((ls.eraseIdx j).map V.str)) F = some (.lst (fs.map V.str)) := by rw [upd_ne hFL]; exact hF5
      refine ⟨F, _, _, rfl, rfl, hF6, small1000 (by rw [List.length_map]; omega), _, ls.eraseIdx j, fs ++ [y], rfl, (s5.put gL).put gFH, ?_, ?_, ?_, ?_, ?_, ?_⟩
      · rw [upd_ne hFL.symm, upd_same]
      · rw [upd_same, List.map_append]; rfl
      · have := erase_len ls j hj3
        omega
      · rw [List.length_append, hfl]; rfl
      · exact fun x hx => hls x (List.mem_of_mem_eraseIdx hx)
      · intro x hx
        rcases List.mem_append.mp hx with z | z
        · exact hfs x z
        · rw [List.mem_singleton.mp z]; exact hls y hy
    · rintro σ H5 ⟨v5, ls, fs, rfl, s5, hL5, hF5, hlen, hfl, hls, hfs⟩
      refine ⟨_, rfl, F, _, rfl, .inl ⟨SqL.of hF5, fun t gt => ?_⟩⟩
      exact q t fs _ (s5.new gt) upd_same (by omega) hfs
abbrev Pl := Str × Nat × Rw
def rowsPl (n : Str) (rs : List Rw) : List Pl := rs.zipIdx.map fun x => (n, x.2, x.1)
theorem rowsPl_snoc (n : Str) (rs : List Rw) (rw : Rw) : rowsPl n (rs ++ [rw]) = rowsPl n rs ++ [(n, rs.length, rw)] := by
  unfold rowsPl
  rw [List.zipIdx_append, List.map_append]
  simp
theorem rowsPl_len (n : Str) (rs : List Rw) : (rowsPl n rs).length = rs.length := by unfold rowsPl; simp
def plsOf (ps : List Pt) : List Pl := ps.flatMap fun pt => rowsPl pt.1 pt.2
theorem plsOf_snoc (ps : List Pt) (pt : Pt) : plsOf (ps ++ [pt]) = plsOf ps ++ rowsPl pt.1 pt.2 := by
  unfold plsOf
  rw [List.flatMap_append]
  simp
theorem plsOf_len : ∀ {ps : List Pt}, (∀ pt ∈ ps, pt.2.length ≤ 40) → (plsOf ps).length ≤ 40 * ps.length
  | [], _ => by simp [plsOf]
  | pt :: r, h => by
    have h1 := plsOf_len (ps := r) fun p hp => h p (List.mem_cons_of_mem _ hp)
    have h2 := h pt List.mem_cons_self
    have e : plsOf (pt :: r) = rowsPl pt.1 pt.2 ++ plsOf r := rfl
    rw [e, List.length_append, rowsPl_len, List.length_cons]
    omega
def PlAt (H : Hp) (v : V) (x : Pl) : Prop := ∃ t r, v = .ref t ∧ H t = some (.tup [.str x.1, .int (x.2.1 : Int), .ref r]) ∧ RowAt H r x.2.2
theorem PlAt.mono {H H' : Hp} (s : Tups H H') {v : V} {x : Pl} (h : PlAt H v x) : PlAt H' v x := by
  obtain ⟨t, r, e, h1, h2⟩ := h
  exact ⟨t, r, e, s _ _ h1, h2.mono s⟩
def spPlaced : Sp := fun vs H Q _ => ∃ (a : Addr) (ps : List Pt), vs = [.ref a] ∧ PartsF H a ps ∧ PsFit ps ∧ ∀ (p : Addr) (vs : List V) (H' : Hp), Same H H' → H' p = some (.tup vs) → Paired (PlAt H') vs (plsOf ps) → Q (.ref p) H'
theorem ok_placed (T : Txt K mg) : L2.Cl P w K mg base 1 "placed_rows" ["parts"] spPlaced := by
  refine Cl.of T.d_placed_rows sc_placed_rows (fun vs H Q E h => ?_) (fun _ _ _ _ _ _ us hl => match us, hl with | [_], _ => rfl) (fun fa cdv A outer s H vs Q E hr h => ?_)
  · obtain ⟨a, ps, rfl, _⟩ := h
    rfl
  · obtain ⟨a, ps, rfl, hpf, hfit, q⟩ := h
    obtain ⟨o, vs, ha, ho, hps⟩ := id hpf
    have sqa : ∀ {H2 : Hp}, Same H H2 → SqT K H2 a vs := fun s2 => .inl (.inr ⟨o, s2 _ _ ha⟩)
    have hvl : vs.length = ps.length := Paired.length hps
    have hhi := hfit.hi
    refine ⟨_, (pss_cons (ps_set (i := 1) sc_placed_rows.nd rfl (Or.inl rfl) (pe_lst pa_nil))
      (pss_cons (ps_for PassesOwn.never rfl (pi_tup (pv 0)) (pg_tup rfl (pgs_cons (pg_name (i := 2) sc_placed_rows.nd rfl (Or.inl rfl)) (pgs_cons (pg_name (i := 3) sc_placed_rows.nd rfl (Or.inl rfl)) pgs_nil)))
        (pss_one (ps_for PassesOwn.never rfl (pi_enumT (by rfl) T.n_enumerate (pa_cons (pv 3) pa_nil)) (pg_tup rfl (pgs_cons (pg_name (i := 4) sc_placed_rows.nd rfl (Or.inl rfl)) (pgs_cons (pg_name (i := 5) sc_placed_rows.nd rfl (Or.inl rfl)) pgs_nil)))
          (pss_one (ps_expr (pe_bm PySem.F.plainAttrs_list PySem.F.slot_list_append PySem.F.type_list_append mt_append (pv 1) (pa_cons (pe_tup (pa_cons (pv 2) (pa_cons (pv 4) (pa_cons (pv 5) pa_nil)))) pa_nil)))))))
      (pss_one (ps_ret (pe_callTy call_tuple_of (by rfl) T.n_tuple boot_tuple (pa_cons (pv 1) pa_nil)))))), ?_⟩
    refine ⟨(by show 0 ≤ sizeLine; decide), fun l gl => ?_⟩
    have s1 : Same H (upd H l (.lst [])) := (Same.refl H).new gl
    refine ⟨_, rfl, a, rfl, ⟨_, sqa s1⟩, for_tup (K := K) (a := a) (xs := vs) (fun i σ H2 => ∃ (us : List V) (v2 v3 v4 v5 : Option V), σ = [some (.ref a), some (.ref l), v2, v3, v4, v5] ∧ Same H H2 ∧ H2 l = some (.lst us) ∧ Paired (PlAt H2) us (plsOf (ps.take i)))
      ⟨[], none, none, none, none, rfl, s1, upd_same, by rw [List.take_zero]; exact .nil⟩ (fun i σ H2 _ ⟨_, _, _, _, _, _, s2, _⟩ => sqa s2) ?_ ?_⟩
    · rintro i y σ H2 hy ⟨us, v2, v3, v4, v5, rfl, s2, hl2, hus⟩
      obtain ⟨pt, hpt, t, u, ws, ey, ht, hu', hrs⟩ := Paired.get? hps hy
      subst ey
      have hi : i < vs.length := (List.getElem?_eq_some_iff.mp hy).1
      have hr40 := hfit.rows _ (List.mem_of_getElem? hpt)
      have hpl : (plsOf (ps.take i)).length ≤ 40 * 23 := by
        have h1 := plsOf_len (ps := ps.take i) fun p hp => hfit.rows p (List.mem_of_mem_take hp)
        rw [List.length_take] at h1
        omega
      have hwl : ws.length = pt.2.length := Paired.length hrs
      refine ⟨t, _, rfl, SqT.of (s2 _ _ ht), rfl, _, _, rfl, _, _, rfl, rfl, ?_⟩
      refine ⟨_, rfl, u, rfl, ⟨_, SqT.of (s2 _ _ hu')⟩, for_enum (K := K) (a := u) (xs := ws) (fun j σ H3 => ∃ (us : List V) (v4 v5 : Option V), σ = [some (.ref a), some (.ref l), some (.str pt.1), some (.ref u), v4, v5] ∧ Same H H3 ∧ H3 l = some (.lst us) ∧ Paired (PlAt H3) us (plsOf (ps.take i) ++ rowsPl pt.1 (pt.2.take j)))
        ⟨us, _, _, rfl, s2, hl2, by rw [List.take_zero]; show Paired _ us (plsOf (ps.take i) ++ []); rw [List.append_nil]; exact hus⟩ (fun j σ H3 _ ⟨_, _, _, _, s3, _⟩ => SqT.of (s3 _ _ hu')) ?_ ?_⟩
      · rintro j y p σ H3 hy3 ⟨us3, w4, w5, rfl, s3, hl3, hus3⟩ hp
        obtain ⟨rw, hrw, r, er, hra⟩ := Paired.get? hrs hy3
        subst er
        have hj : j < pt.2.length := (List.getElem?_eq_some_iff.mp hrw).1
        have hul : us3.length = (plsOf (ps.take i)).length + j := by
          rw [Paired.length hus3, List.length_append, rowsPl_len, List.length_take]; omega
        have s4 : Same H3 (upd H3 p (.tup [.int (j : Int), .ref r])) := (Same.refl H3).new hp
        refine ⟨p, _, rfl, SqT.of upd_same, rfl, _, _, rfl, _, _, rfl, rfl, ?_⟩
        refine ⟨_, rfl, .inl ⟨rfl, _, SqL.of (s4 _ _ hl3)⟩, _, rfl, _, rfl, _, rfl, (by show 3 ≤ sizeLine; decide), fun c gc => ?_⟩
        have s5 := s4.new (o := .tup [.str pt.1, .int (j : Int), .ref r]) gc
        refine ⟨l, _, _, rfl, rfl, s5 _ _ hl3, small1000 (by omega), ?_⟩
        have T5 := s5.tups.trans (Tups.lst (ys := us3 ++ [.ref c]) (s5 _ _ hl3))
        have hne : c ≠ l := fun z => by rw [z] at gc; rw [s4 _ _ hl3] at gc; cases gc
        refine ⟨us3 ++ [.ref c], _, _, rfl, (s3.trans s5).put gl, upd_same, ?_⟩
        rw [take_succ_get hrw, rowsPl_snoc, ← List.append_assoc]
        refine Paired.snoc (Paired.mapP hus3 fun _ _ z => z.mono T5) ⟨c, r, rfl, ?_, ((hra.mono s3.tups).mono T5)⟩
        rw [upd_ne hne, upd_same]
        have : (pt.2.take j).length = j := by rw [List.length_take]; omega
        simp only [this]
      · rintro σ H3 ⟨us3, w4, w5, rfl, s3, hl3, hus3⟩
        rw [hwl, List.take_length] at hus3
        refine ⟨us3, _, _, _, _, rfl, s3, hl3, ?_⟩
        rw [take_succ_get hpt, plsOf_snoc]
        exact hus3
    · rintro σ H2 ⟨us, v2, v3, v4, v5, rfl, s2, hl2, hus⟩
      rw [hvl, List.take_length] at hus
      refine ⟨_, rfl, l, _, rfl, .inl ⟨SqL.of hl2, fun p gp => ?_⟩⟩
      have s3 : Same H2 (upd H2 p (.tup us)) := (Same.refl H2).new gp
      exact q p us _ (s2.trans s3) upd_same (Paired.mapP hus fun _ _ z => z.mono s3.tups)
def askN : Rw → Option Str
  | .ask p _ => some p
  | _ => none
def asked (ps : List Pt) : List Str := (plsOf ps).filterMap fun x => askN x.2.2
theorem row_ask {H : Hp} {r : Addr} {rw : Rw} (h : RowAt H r rw) : (∃ p rest, askN rw = some p ∧ kindS rw = "ask" ∧ H r = some (.tup (.str "ask" :: .str p :: rest))) ∨ (askN rw = none ∧ ¬ kindS rw = "ask" ∧ ∃ x rest, H r = some (.tup (.str (kindS rw) :: x :: rest))) := by
  cases rw with
  | ask p w => exact .inl ⟨p, _, rfl, rfl, h⟩
  | _ => exact .inr ⟨rfl, by simp only [kindS]; decide +kernel, RowAt.kind h⟩
theorem asked_flat : ∀ ps : List Pt, asked ps = ps.flatMap fun pt => pt.2.filterMap askN
  | [] => rfl
  | pt :: r => by
    have ih := asked_flat r
    unfold asked at ih ⊢
    have e : plsOf (pt :: r) = rowsPl pt.1 pt.2 ++ plsOf r := rfl
    rw [e, List.filterMap_append, ih, List.flatMap_cons]
    congr 1
    unfold rowsPl
    rw [List.filterMap_map]
    have : ∀ (l : List Rw) (k : Nat), (l.zipIdx k).filterMap ((fun x : Pl => askN x.2.2) ∘ fun x : Rw × Nat => (pt.1, x.2, x.1)) = l.filterMap askN := by
      intro l
      induction l with
      | nil => intro k; rfl
      | cons a l ih =>
        intro k
        rw [List.zipIdx_cons, List.filterMap_cons, List.filterMap_cons, ih]
        rfl
    exact this _ 0
def rootsOf (ps : List Pt) (bs : List Str) : List Str := bs ++ (ps.map (·.1)).filter fun n => decide (n ∈ asked ps) && !decide (n ∈ bs)
def spRoots : Sp := fun vs H Q _ => ∃ (a b : Addr) (ps : List Pt) (bs : List Str), vs = [.ref a, .ref b] ∧ PartsF H a ps ∧ PsFit ps ∧ H b = some (.tup (bs.map V.str)) ∧ bs.length ≤ 24 ∧ ∀ (p : Addr) (H' : Hp), Same H H' → H' p = some (.tup ((rootsOf ps bs).map V.str)) → Q (.ref p) H'
theorem cat_same {K : PySem.W.Frag} {H : Hp} {a b : Addr} {xs ys : List V} {Q : VK} (ha : H a = some (.tup xs)) (hb : H b = some (.tup ys)) (hl : xs.length + ys.length ≤ 1000) (q : ∀ (p : Addr) (H' : Hp), Same H H' → H' p = some (.tup (xs ++ ys)) → Q (.ref p) H') : rCatA K (.ref a) (.ref b) H Q := by
  refine ⟨a, b, xs, ys, rfl, rfl, SqT.of ha, SqT.of hb, Nat.le_of_lt (small1000 hl), ?_, ?_, ?_⟩
  · rintro rfl
    exact q b H (Same.refl H) (by rw [List.nil_append]; exact hb)
  · rintro _ rfl
    exact q a H (Same.refl H) (by rw [List.append_nil]; exact ha)
  · intro _ _ p gp
    exact q p _ ((Same.refl H).new gp) upd_same
theorem filter_snoc {p : Str → Bool} {l : List Str} {i : Nat} {x : Str} (h : l[i]? = some x) : (l.take (i + 1)).filter p = (l.take i).filter p ++ if p x = true then [x] else [] := by
  rw [take_succ_get h, List.filter_append]
  by_cases e : p x = true
  · rw [if_pos e, List.filter_cons_of_pos e]; rfl
  · rw [if_neg e, List.filter_cons_of_neg e]; rfl
theorem ok_roots (T : Txt K mg) : L2.Cl P w K mg base 2 "roots" ["parts", "beginnings"] spRoots := by
  have C_placed_rows := ok_placed (P := P) (w := w) (base := base) T
  refine Cl.of T.d_roots sc_roots (fun vs H Q E h => ?_) (fun _ _ _ _ _ _ us hl => match us, hl with | [_, _], _ => rfl) (fun f cdv A outer s H vs Q E hr h => ?_)
  · obtain ⟨a, b, ps, bs, rfl, _⟩ := h
    rfl
  · obtain ⟨a, b, ps, bs, rfl, hpf, hfit, hb, hbl, q⟩ := h
    refine ⟨_, (pss_cons (ps_set (i := 2) sc_roots.nd rfl (Or.inr rfl) (pe_comp (M := ["part", "number", "row"]) (ρ := [none, none, none]) (defScope s_roots) ["parts", "beginnings", "asked"] ⟨rfl, by decide +kernel, by decide +kernel, by decide +kernel, rfl, by decide +kernel, by decide +kernel⟩ (pi_tup (pe_fn C_placed_rows hr (by rfl) (pa_cons (pv 0) pa_nil))) (fun _ _ _ _ _ _ => (pg_tupK (K := K) (n := 3) rfl rfl (pgs_cons (pg_name (i := 0) (show (["part", "number", "row"] : List Str).Nodup by decide +kernel) rfl (Or.inl rfl)) (pgs_cons (pg_name (i := 1) (show (["part", "number", "row"] : List Str).Nodup by decide +kernel) rfl (Or.inl rfl)) (pgs_cons (pg_name (i := 2) (show (["part", "number", "row"] : List Str).Nodup by decide +kernel) rfl (Or.inl rfl)) pgs_nil))))) (fun _ _ _ _ _ _ => (pts_one (pt_cmpR op_eq (pe_ix (ix_tupK (K := K) rfl) (pv 2) pe_int (fun _ _ => rfl)) pe_str (nomark _)))) (fun _ _ _ _ _ _ => (pe_ix (ix_tupK (K := K) rfl) (pv 2) pe_int (fun _ _ => rfl)))))
      (pss_one (ps_ret (pe_op op_catA (pv 1) (pe_callTy call_tuple_of (by rfl) T.n_tuple boot_tuple (pa_cons (pe_comp (M := ["part", "rows", "asked", "beginnings"]) (ρ := [none, none, some 2, some 1]) (defScope s_roots) ["parts", "beginnings", "asked"] ⟨rfl, by decide +kernel, by decide +kernel, by decide +kernel, rfl, by decide +kernel, by decide +kernel⟩ (pi_tup (pv 0)) (fun _ _ _ _ _ _ => (pg_tupK (K := K) (n := 2) rfl rfl (pgs_cons (pg_name (i := 0) (show (["part", "rows", "asked", "beginnings"] : List Str).Nodup by decide +kernel) rfl (Or.inl rfl)) (pgs_cons (pg_name (i := 1) (show (["part", "rows", "asked", "beginnings"] : List Str).Nodup by decide +kernel) rfl (Or.inl rfl)) pgs_nil)))) (fun _ _ _ _ _ _ => (pts_one (PW.pt (pw_and (pt_cmpR (op_in_seqK (K := K) rfl) (pv 0) (pv 2) (by with_unfolding_all rfl)) (pw_and1 (pt_cmpR (op_notin_seqK (K := K) rfl) (pv 0) (pv 3) (by with_unfolding_all rfl))))))) (fun _ _ _ _ _ _ => (pv 0))) pa_nil)))))), ?_⟩
    refine ⟨_, rfl, a, ps, rfl, hpf, hfit, fun p vs H1 s1 hp hvs => ?_⟩
    have hvl : vs.length = (plsOf ps).length := Paired.length hvs
    have hpl : (plsOf ps).length ≤ 960 := by
      have h1 := plsOf_len hfit.rows
      have h2 := hfit.hi
      omega
    refine ⟨p, rfl, ⟨_, SqT.of hp⟩, fun D gD => ?_⟩
    refine comp_by vs.length (fun i σ H3 => ∃ v0 v1 v2 : Option V, σ = [v0, v1, v2] ∧ Same H1 H3 ∧ H3 D = some (.lst ((((plsOf ps).take i).filterMap fun x => askN x.2.2).map V.str))) ⟨_, _, _, rfl, (Same.refl H1).new gD, upd_same⟩ ?_ ?_
    · rintro i σ H3 hi ⟨v0, v1, v2, rfl, s3, hD3⟩
      refine ⟨⟨vs, vs[i], SqT.of (s3 _ _ hp), by simp⟩, ?_⟩
      rintro x H4 ⟨rfl, hx⟩
      obtain ⟨⟨n, j, rw⟩, hz, t, r, ey, ht, hra⟩ := Paired.get? hvs (hx _ (SqT.of (s3 _ _ hp)))
      subst ey
      have hra3 := hra.mono s3.tups
      have hlen : ((((plsOf ps).take i).filterMap fun x => askN x.2.2).map V.str).length ≤ 960 := by
        rw [List.length_map]
        have h2 : (((plsOf ps).take i).filterMap fun x => askN x.2.2).length ≤ ((plsOf ps).take i).length := List.length_filterMap_le _ _
        rw [List.length_take] at h2
        omega
      refine ⟨t, _, rfl, SqT.of (s3 _ _ ht), rfl, _, _, rfl, _, _, rfl, _, _, rfl, rfl, ?_⟩
      rcases row_ask hra3 with ⟨m, rest, hm, hk, hrt⟩ | ⟨hm, hk, x1, rest, hrt⟩
      · have z0 : atI (V.str "ask" :: V.str m :: rest) 0 = some (.str "ask") := atI_nat (j := 0) rfl
        have z1 : atI (V.str "ask" :: V.str m :: rest) 1 = some (.str m) := atI_nat (j := 1) rfl
        refine ⟨_, rfl, r, _, _, _, rfl, rfl, SqT.of hrt, z0, rfl, _, rfl, iteSE ?_⟩
        refine ⟨_, rfl, r, _, _, _, rfl, rfl, SqT.of hrt, z1, _, hD3, small1000 (by omega), _, _, _, rfl, s3.put gD, ?_⟩
        rw [upd_same, take_succ_get hz, List.filterMap_append, List.map_append]
        simp [hm]
      · have z0 : atI (V.str (kindS rw) :: x1 :: rest) 0 = some (.str (kindS rw)) := atI_nat (j := 0) rfl
        refine ⟨_, rfl, r, _, _, _, rfl, rfl, SqT.of hrt, z0, rfl, _, rfl, iteSN hk ?_⟩
        refine ⟨_, _, _, rfl, s3, ?_⟩
        rw [take_succ_get hz, List.filterMap_append, hD3]
        simp [hm]
    · rintro σ H3 ⟨v0, v1, v2, rfl, s3, hD3⟩
      refine ⟨⟨vs, SqT.of (s3 _ _ hp), Nat.le_refl _⟩, ?_⟩
      rw [hvl, List.take_length] at hD3
      have hD3' : H3 D = some (.lst ((asked ps).map V.str)) := hD3
      obtain ⟨oo, ws, ha, ho, hps⟩ := id hpf
      have s13 := s1.trans s3
      have sqa : ∀ {H' : Hp}, Same H H' → SqT K H' a ws := fun s2 => .inl (.inr ⟨oo, s2 _ _ ha⟩)
      have hwl : ws.length = ps.length := Paired.length hps
      have hpi := hfit.hi
      refine ⟨_, rfl, _, rfl, a, rfl, ⟨_, sqa s13⟩, fun D2 gD2 => ?_⟩
      refine comp_by ws.length (fun i σ H4 => ∃ v0 v1 : Option V, σ = [v0, v1, some (.ref D), some (.ref b)] ∧ Same H3 H4 ∧ H4 D2 = some (.lst ((((ps.map (·.1)).take i).filter fun n => decide (n ∈ asked ps) && !decide (n ∈ bs)).map V.str))) ⟨_, _, rfl, (Same.refl H3).new gD2, by rw [upd_same]; simp⟩ ?_ ?_
      · rintro i σ H4 hi ⟨v0, v1, rfl, s4, hD4⟩
        have s14 := s13.trans s4
        refine ⟨⟨ws, ws[i], sqa s14, by simp⟩, ?_⟩
        rintro x H5 ⟨rfl, hx⟩
        obtain ⟨pt, hpt, t, u, zs, ey, ht, hu', hrs⟩ := Paired.get? hps (hx _ (sqa s14))
        subst ey
        have hn : (ps.map (·.1))[i]? = some pt.1 := by rw [List.getElem?_map, hpt]; rfl
        refine ⟨t, _, rfl, SqT.of (s14 _ _ ht), rfl, _, _, rfl, _, _, rfl, rfl, ?_⟩
        refine tand_pure (a := decide (pt.1 ∈ asked ps)) (b := !decide (pt.1 ∈ bs)) (fun Q' h => ⟨_, rfl, _, rfl, D, _, rfl, .inl (SqL.of (s4 _ _ hD3')), rfl, strs_flat _, _, rfl, by rw [if_neg Bool.false_ne_true, inV_strs]; exact h⟩) (fun Q' h => ⟨_, rfl, _, rfl, b, _, rfl, .inr (SqT.of (s14 _ _ hb)), rfl, strs_flat _, _, rfl, by rw [if_pos rfl, inV_strs]; exact h⟩) _ ?_
        refine ite2 (fun hc => ?_) (fun hc => ?_)
        · refine ⟨_, rfl, _, hD4, small1000 ?_, _, _, rfl, s4.put gD2, ?_⟩
          · rw [List.length_map]
            have h2 := List.length_filter_le (fun n => decide (n ∈ asked ps) && !decide (n ∈ bs)) ((ps.map (·.1)).take i)
            rw [List.length_take] at h2
            omega
          · rw [upd_same, filter_snoc hn, if_pos hc, List.map_append]
            rfl
        · refine ⟨_, _, rfl, s4, ?_⟩
          rw [filter_snoc hn, if_neg hc, List.append_nil]
          exact hD4
      · rintro σ H4 ⟨v0, v1, rfl, s4, hD4⟩
        have s14 := s13.trans s4
        refine ⟨⟨ws, sqa s14, Nat.le_refl _⟩, ?_⟩
        rw [hwl, List.take_of_length_le (by rw [List.length_map]; omega)] at hD4
        refine ⟨D2, _, rfl, .inl ⟨SqL.of hD4, fun t gt => ?_⟩⟩
        have s5 := s14.new (o := .tup (((ps.map (·.1)).filter fun n => decide (n ∈ asked ps) && !decide (n ∈ bs)).map V.str)) gt
        refine cat_same (s5 _ _ hb) upd_same ?_ fun p2 H6 s6 hp2 => ?_
        · rw [List.length_map, List.length_map]
          have h2 := List.length_filter_le (fun n => decide (n ∈ asked ps) && !decide (n ∈ bs)) (ps.map (·.1))
          rw [List.length_map] at h2
          omega
        · exact q p2 H6 (s5.trans s6) (by rw [hp2, rootsOf, List.map_append])
theorem nodup_lenG {α : Type} [DecidableEq α] : ∀ (l N : List α), l.Nodup → (∀ x ∈ l, x ∈ N) → l.length ≤ N.length
  | [], N, _, _ => Nat.zero_le _
  | a :: r, N, hn, hs => by
    rw [List.nodup_cons] at hn
    have ha : a ∈ N := hs a List.mem_cons_self
    have h1 := nodup_lenG r (N.erase a) hn.2 fun x hx => (List.mem_erase_of_ne (fun z => hn.1 (by rw [← z]; exact hx))).mpr (hs x (List.mem_cons_of_mem _ hx))
    rw [List.length_erase_of_mem ha] at h1
    have : 0 < N.length := List.length_pos_of_mem ha
    simp only [List.length_cons]; omega
theorem setD_val (l : List Str) (x : Str) : valV (setD l) (Sum.inr x) = if x ∈ l then some (.bl true) else none := by
  induction l with
  | nil => rfl
  | cons a r ih =>
    have e : setD (a :: r) = (Sum.inr a, .bl true) :: setD r := rfl
    rw [e]
    by_cases h : a = x
    · subst h
      rw [valV_pos rfl, if_pos List.mem_cons_self]
    · rw [valV_neg (fun z => h (Sum.inr.inj z)), ih]
      by_cases hm : x ∈ r
      · rw [if_pos hm, if_pos (List.mem_cons_of_mem _ hm)]
      · rw [if_neg hm, if_neg (fun z => by rcases List.mem_cons.mp z with y | y; exact h y.symm; exact hm y)]
theorem setD_some (l : List Str) (x : Str) : (valV (setD l) (Sum.inr x)).isSome = decide (x ∈ l) := by
  rw [setD_val]
  by_cases h : x ∈ l
  · rw [if_pos h, decide_eq_true h]; rfl
  · rw [if_neg h, decide_eq_false h]; rfl
theorem addN_mem (l : List Str) (x y : Str) : y ∈ addN l x ↔ y ∈ l ∨ y = x := by
  unfold addN
  by_cases h : x ∈ l
  · rw [if_pos h]
    exact ⟨.inl, fun z => by rcases z with z | z; exact z; rw [z]; exact h⟩
  · rw [if_neg h, List.mem_append, List.mem_singleton]
theorem g_while {c : TT} {tb R : TS} {D : Ends} {N : L2.St → Hp → Prop} {i : Nat} {v : V} {σ : L2.St} {H : Hp} (e : N = tSeq (tWhile c tb) R D) (h : tWhile c tb { D with nx := R D } (σ.set i (some v)) H) : gName i v σ H N := by
  show N (σ.set i (some v)) H
  rw [e]
  exact h
theorem addN_nodup {l : List Str} (h : l.Nodup) (x : Str) : (addN l x).Nodup := by
  unfold addN
  by_cases hx : x ∈ l
  · rw [if_pos hx]; exact h
  · rw [if_neg hx]
    refine List.nodup_append.mpr ⟨h, by simp, fun a ha b hb z => ?_⟩
    rw [List.mem_singleton.mp hb] at z
    exact hx (by rw [← z]; exact ha)
theorem mem_fold (k m : Str) : ∀ (rs : List Rw) (l : List Str), m ∈ rs.foldl (stepN k) l ↔ m ∈ l ∨ ∃ r ∈ rs, namesIt k r = some m
  | [], l => by simp
  | r :: rs, l => by
    rw [List.foldl_cons, mem_fold k m rs]
    have h : m ∈ stepN k l r ↔ m ∈ l ∨ namesIt k r = some m := by
      unfold stepN
      cases e : namesIt k r with
      | none => simp
      | some x =>
        show m ∈ addN l x ↔ _
        rw [addN_mem]
        simp only [Option.some.injEq]
        exact ⟨fun z => by rcases z with z | z; exact .inl z; exact .inr z.symm, fun z => by rcases z with z | z; exact .inl z; exact .inr z.symm⟩
    rw [h]
    simp only [List.mem_cons, exists_eq_or_imp, or_assoc]
theorem mem_namedOf (k m : Str) (rs : List Rw) : m ∈ namedOf k rs ↔ ∃ r ∈ rs, namesIt k r = some m := by
  unfold namedOf
  rw [mem_fold]
  simp
def muS (f wl : Addr) (H : Hp) : Nat := match H f, H wl with
  | some (.dK kvs), some (.lst W) => (50 - kvs.length) * 101 + W.length
  | _, _ => 0
theorem muS_eq {f wl : Addr} {H : Hp} {l W : List Str} (h1 : H f = some (.dK (setD l))) (h2 : H wl = some (.lst (W.map V.str))) : muS f wl H = (50 - l.length) * 101 + W.length := by
  unfold muS
  rw [h1, h2]
  simp only [setD_len, List.length_map]
theorem strs_drop (W : List Str) : (W.map V.str).dropLast = W.dropLast.map V.str := by
  rw [List.map_dropLast]
inductive Dfs (k : Str → List Str) : List Str → List Str → List Str → Prop where
  | nil {V : List Str} : Dfs k V [] V
  | old {V r R : List Str} {n : Str} : n ∈ V → Dfs k V r R → Dfs k V (n :: r) R
  | new {V r R : List Str} {n : Str} : n ∉ V → Dfs k (V ++ [n]) (k n ++ r) R → Dfs k V (n :: r) R
def rowsOf (ps : List Pt) (n : Str) : List Rw := ((ps.find? fun p => decide (p.1 = n)).map (·.2)).getD []
theorem rowsOf_eq : ∀ {ps : List Pt} {n : Str} {rs : List Rw}, (ps.map (·.1)).Nodup → (n, rs) ∈ ps → rowsOf ps n = rs
  | [], n, rs, _, h => by simp at h
  | p :: ps, n, rs, hn, h => by
    rw [List.map_cons, List.nodup_cons] at hn
    rcases List.mem_cons.mp h with e | e
    · unfold rowsOf
      rw [List.find?_cons_of_pos (by rw [← e]; simp), ← e]; rfl
    · have hne : ¬ p.1 = n := fun z => hn.1 (by rw [z]; exact List.mem_map_of_mem (f := (·.1)) e)
      have := rowsOf_eq hn.2 e
      unfold rowsOf at this ⊢
      rw [List.find?_cons_of_neg (by simpa using hne)]
      exact this
def k1 (ps : List Pt) (n : Str) : List Str := namedOf "bring" (rowsOf ps n)
def ClosedB (ps : List Pt) : Prop := ∀ n ∈ ps.map (·.1), ∀ m ∈ k1 ps n, m ∈ ps.map (·.1)
theorem part_of {ps : List Pt} {n : Str} (h : n ∈ ps.map (·.1)) : ∃ rs, (n, rs) ∈ ps := by
  obtain ⟨p, hp, e⟩ := List.mem_map.mp h
  exact ⟨p.2, by rw [← e]; exact hp⟩
def spOrder : Sp := fun vs H Q _ => ∃ (a : Addr) (ps : List Pt) (n : Str), vs = [.ref a, .str n] ∧ PartsF H a ps ∧ PsFit ps ∧ ClosedB ps ∧ n ∈ ps.map (·.1) ∧ ∀ (p : Addr) (R : List Str) (H' : Hp), Same H H' → H' p = some (.tup (R.map V.str)) → Dfs (k1 ps) [] [n] R → Q (.ref p) H'
theorem ok_order (T : Txt K mg) : L2.Cl P w K mg base 3 "order" ["parts", "root"] spOrder := by
  have C_brings := ok_brings (P := P) (w := w) (base := base) T
  refine Cl.of T.d_order sc_order (fun vs H Q E h => ?_) (fun _ _ _ _ _ _ us hl => match us, hl with | [_, _], _ => rfl) (fun fa cdv A outer s H vs Q E hr h => ?_)
  · obtain ⟨a, ps, n, rfl, _⟩ := h
    rfl
  · obtain ⟨a, ps, root, rfl, hpf, hfit, hcl, hroot, q⟩ := h
    have hu := hu_of hr
    have hN : (ps.map (·.1)).length ≤ 24 := by rw [List.length_map]; exact hfit.hi
    refine ⟨_, (pss_cons (ps_set (i := 2) sc_order.nd rfl (Or.inl rfl) pe_dnewK)
      (pss_cons (ps_set (i := 3) sc_order.nd rfl (Or.inl rfl) (pe_lst (pa_cons (pv 1) pa_nil)))
      (pss_cons (ps_while PassesOwn.never (pt_truth (pv 3) (fun _ => rfl))
        (pss_cons (ps_set (i := 4) sc_order.nd rfl (Or.inl rfl) (pe_bm0 PySem.F.plainAttrs_list PySem.F.slot_list_pop PySem.F.type_list_pop mt_pop (pv 3)))
        (pss_one (ps_if (pt_cmp (pc_dnotin hu (pv 4) (pv 2)))
          (pss_cons (ps_dput hu (pv 2) (pv 4) pe_bl rfl)
          (pss_one (ps_expr (pe_bm PySem.F.plainAttrs_list PySem.F.slot_list_extend PySem.F.type_list_extend mt_extend (pv 3) (pa_cons (pe_lrev rfl (pe_fn C_brings hr (by rfl) (pa_cons (pv 0) (pa_cons (pv 4) pa_nil))) (by rfl) T.n_list (by rfl) T.n_reversed) pa_nil))))) pss_nil))))
      (pss_one (ps_ret (pe_callTy (call_tupleD rfl) (by rfl) T.n_tuple boot_tuple (pa_cons (pv 2) pa_nil))))))), ?_⟩
    intro f gf
    have s1 : Same H (upd H f (.dK [])) := (Same.refl H).new gf
    refine ⟨_, rfl, (by show 1 ≤ sizeLine; decide), fun wl gw => ?_⟩
    have s2 : Same H (upd (upd H f (.dK [])) wl (.lst [.str root])) := s1.new gw
    have hfw : f ≠ wl := ne_of_none (upd_same (H := H) (a := f) (o := .dK [])) gw
    have gwH : H wl = none := s1.free gw
    apply g_while
    · with_reducible_and_instances rfl
    refine while_by (fun σ H2 => ∃ (l W : List Str) (v4 : Option V), σ = [some (.ref a), some (.str root), some (.ref f), some (.ref wl), v4] ∧ Same H H2 ∧ H2 f = some (.dK (setD l)) ∧ H2 wl = some (.lst (W.map V.str)) ∧ l.Nodup ∧ (∀ n ∈ l, n ∈ ps.map (·.1)) ∧ (∀ n ∈ W, n ∈ ps.map (·.1)) ∧ W.length + (50 - l.length) * 101 ≤ 6000 ∧ ∀ R, Dfs (k1 ps) l W.reverse R → Dfs (k1 ps) [] [root] R) (fun _ H2 => muS f wl H2)
      ⟨[], [root], none, rfl, s2, by rw [upd_ne hfw, upd_same]; rfl, upd_same, List.nodup_nil, fun n hn => by simp at hn, fun n hn => by rw [List.mem_singleton.mp hn]; exact hroot, by simp only [List.length_nil, List.length_singleton]; omega, fun R h => h⟩ ?_ ?_
    · rintro σ H2 ⟨l, W, v4, rfl, s3, hf, hw, hnd, hlN, hWN, hbd, hD⟩
      refine ⟨_, rfl, _, .inl ⟨_, SqL.of hw, rfl⟩, ?_⟩
      have hll := nodup_lenG l _ hnd hlN
      cases hW : W.getLast? with
      | none =>
        have hWe : W = [] := List.getLast?_eq_none_iff.mp hW
        subst hWe
        refine iteF ?_
        refine ⟨_, rfl, f, _, rfl, .inl hf, fun p gp => ?_⟩
        rw [setD_keys]
        exact q p l _ (s3.new gp) upd_same (hD l .nil)
      | some x =>
        have hne : W ≠ [] := fun z => by rw [z] at hW; simp at hW
        have hWd : W = W.dropLast ++ [x] := by
          obtain ⟨ys, hys⟩ := List.getLast?_eq_some_iff.mp hW
          rw [hys, List.dropLast_concat]
        have hxW : x ∈ W := by rw [hWd]; simp
        have hpos : 0 < W.length := List.length_pos_of_mem hxW
        have hrev : W.reverse = x :: W.dropLast.reverse := by
          conv => lhs; rw [hWd]
          rw [List.reverse_append]
          rfl
        rw [show (!(W.map V.str).isEmpty) = true by cases W with | nil => exact absurd rfl hne | cons _ _ => rfl]
        refine iteT ?_
        have hlast : (W.map V.str)[(W.map V.str).length - 1]? = some (.str x) := by
          rw [List.getElem?_map, List.length_map, ← List.getLast?_eq_getElem?, hW]; rfl
        refine ⟨_, rfl, .inl ⟨rfl, _, SqL.of hw⟩, wl, _, _, rfl, rfl, hw, hlast, ?_⟩
        rw [strs_drop]
        have s4 : Same H (upd H2 wl (.lst (W.dropLast.map V.str))) := s3.put gwH
        have hf4 : upd H2 wl (.lst (W.dropLast.map V.str)) f = some (.dK (setD l)) := by rw [upd_ne hfw]; exact hf
        have hw4 : upd H2 wl (.lst (W.dropLast.map V.str)) wl = some (.lst (W.dropLast.map V.str)) := upd_same
        have hmu := muS_eq hf hw
        generalize upd H2 wl (.lst (W.dropLast.map V.str)) = H4 at s4 hf4 hw4 ⊢
        have hdl : W.dropLast.length = W.length - 1 := List.length_dropLast
        have hmemW : ∀ n, n ∈ W ↔ n ∈ W.dropLast ∨ n = x := fun n => by
          conv => lhs; rw [hWd]
          rw [List.mem_append, List.mem_singleton]
        refine ⟨_, rfl, _, rfl, f, _, rfl, DGet.k (k := Sum.inr x) hf4, ?_⟩
        refine ⟨_, rfl, ?_⟩
        rw [setD_some]
        by_cases hx : x ∈ l
        · rw [decide_eq_true hx]
          refine iteF ?_
          refine ⟨⟨l, W.dropLast, _, rfl, s4, hf4, hw4, hnd, hlN, fun n hn => hWN n ((hmemW n).mpr (.inl hn)), by omega, fun R h => hD R ?_⟩, ?_⟩
          · rw [hrev]; exact .old hx h
          · show muS f wl H4 < muS f wl H2
            rw [muS_eq hf4 hw4, hmu]
            omega
        · rw [decide_eq_false hx]
          refine iteT ?_
          have hxN : x ∈ ps.map (·.1) := hWN x hxW
          have hadd : addN l x = l ++ [x] := by unfold addN; rw [if_neg hx]
          have hnd' : (addN l x).Nodup := addN_nodup hnd x
          have hlN' : ∀ n ∈ addN l x, n ∈ ps.map (·.1) := fun n hn => by
            rcases (addN_mem l x n).mp hn with z | z
            · exact hlN n z
            · rw [z]; exact hxN
          have hll' := nodup_lenG _ _ hnd' hlN'
          rw [hadd, List.length_append, List.length_singleton] at hll'
          refine ⟨_, rfl, _, rfl, f, _, rfl, DPut.k (k := Sum.inr x) hf4 (small1000 (by rw [setD_len]; omega)), ?_⟩
          rw [setD_put]
          have s5 : Same H (upd H4 f (.dK (setD (addN l x)))) := s4.put gf
          have hf5 : upd H4 f (.dK (setD (addN l x))) f = some (.dK (setD (addN l x))) := upd_same
          have hw5 : upd H4 f (.dK (setD (addN l x))) wl = some (.lst (W.dropLast.map V.str)) := by rw [upd_ne hfw.symm]; exact hw4
          generalize upd H4 f (.dK (setD (addN l x))) = H5 at s5 hf5 hw5 ⊢
          obtain ⟨rs, hmem⟩ := part_of hxN
          have hr40 : rs.length ≤ 40 := hfit.rows _ hmem
          have hhi := hfit.hi
          refine ⟨_, rfl, .inl ⟨rfl, _, SqL.of hw5⟩, _, rfl, _, rfl, a, ps, x, rs, rfl, s5.partsF hpf, hfit.nd, hmem, by omega, by omega, fun p H6 s6 hp => ?_⟩
          have hk1 : namedOf "bring" rs = k1 ps x := by unfold k1; rw [rowsOf_eq hfit.nd hmem]
          rw [hk1] at hp
          have hkl : (k1 ps x).length ≤ 40 := by
            have h1 := namedOf_len "bring" rs []
            rw [← hk1]
            unfold namedOf
            simp only [List.length_nil] at h1
            omega
          refine ⟨p, _, rfl, SqT.of hp, fun c gc => ?_⟩
          rw [← List.map_reverse]
          have hw6 := s6 _ _ hw5
          have hf6 := s6 _ _ hf5
          have hwc : wl ≠ c := fun z => by rw [z, gc] at hw6; cases hw6
          have hfc : f ≠ c := fun z => by rw [z, gc] at hf6; cases hf6
          refine ⟨wl, c, _, _, rfl, rfl, upd_keep hw6 gc, upd_same, Nat.le_of_lt (by
            have : sizeLine = 16777216 := sizeLine_eq
            rw [List.length_map, List.length_map, List.length_reverse]; omega), ?_⟩
          rw [← List.map_append]
          have s7 : Same H (upd (upd H6 c (.lst ((k1 ps x).reverse.map V.str))) wl (.lst ((W.dropLast ++ (k1 ps x).reverse).map V.str))) := ((s5.trans s6).new gc).put gwH
          have hf7 : upd (upd H6 c (.lst ((k1 ps x).reverse.map V.str))) wl (.lst ((W.dropLast ++ (k1 ps x).reverse).map V.str)) f = some (.dK (setD (addN l x))) := by rw [upd_ne hfw, upd_ne hfc]; exact hf6
          refine ⟨⟨addN l x, W.dropLast ++ (k1 ps x).reverse, _, rfl, s7, hf7, upd_same, hnd', hlN', fun n hn => ?_, ?_, fun R h => hD R ?_⟩, ?_⟩
          · rcases List.mem_append.mp hn with z | z
            · exact hWN n ((hmemW n).mpr (.inl z))
            · exact hcl x hxN n (List.mem_reverse.mp z)
          · rw [hadd, List.length_append, List.length_append, List.length_singleton, List.length_reverse]; omega
          · rw [List.reverse_append, List.reverse_reverse, hadd] at h
            rw [hrev]
            exact .new hx h
          · show muS f wl _ < muS f wl H2
            rw [muS_eq hf7 upd_same, hmu, hadd, List.length_append, List.length_append, List.length_singleton, List.length_reverse]
            omega
    · rintro σ H2 Q1 Q2 hQ ⟨v, e, b, hb, hq⟩
      exact ⟨v, e, b, hb, hQ _ _ hq⟩
inductive Rc (k : Str → List Str) (r : Str) : Str → Prop where
  | base : Rc k r r
  | step {a b : Str} : Rc k r a → b ∈ k a → Rc k r b
theorem Rc.trans {k : Str → List Str} {a b c : Str} (h1 : Rc k a b) (h2 : Rc k b c) : Rc k a c := by
  induction h2 with
  | base => exact h1
  | step _ e ih => exact .step ih e
theorem Dfs.sound {k : Str → List Str} {V l R : List Str} (h : Dfs k V l R) : ∀ x ∈ R, x ∈ V ∨ ∃ y ∈ l, Rc k y x := by
  induction h with
  | nil => exact fun x hx => .inl hx
  | old _ _ ih =>
    intro x hx
    rcases ih x hx with z | ⟨y, hy, z⟩
    · exact .inl z
    · exact .inr ⟨y, List.mem_cons_of_mem _ hy, z⟩
  | new _ _ ih =>
    intro x hx
    rcases ih x hx with z | ⟨y, hy, z⟩
    · rcases List.mem_append.mp z with z | z
      · exact .inl z
      · rw [List.mem_singleton.mp z]
        exact .inr ⟨_, List.mem_cons_self, .base⟩
    · rcases List.mem_append.mp hy with w | w
      · exact .inr ⟨_, List.mem_cons_self, Rc.trans (.step .base w) z⟩
      · exact .inr ⟨y, List.mem_cons_of_mem _ w, z⟩
theorem Dfs.full {k : Str → List Str} {V l R : List Str} (h : Dfs k V l R) : (∀ x ∈ V, x ∈ R) ∧ (∀ x ∈ l, x ∈ R) ∧ ∀ x ∈ R, x ∉ V → ∀ y ∈ k x, y ∈ R := by
  induction h with
  | nil => exact ⟨fun x h => h, fun x h => by simp at h, fun x h1 h2 => absurd h1 h2⟩
  | old hm _ ih =>
    refine ⟨ih.1, fun x hx => ?_, ih.2.2⟩
    rcases List.mem_cons.mp hx with z | z
    · rw [z]; exact ih.1 _ hm
    · exact ih.2.1 x z
  | new hn _ ih =>
    refine ⟨fun x hx => ih.1 x (List.mem_append_left _ hx), fun x hx => ?_, fun x h1 h2 y hy => ?_⟩
    · rcases List.mem_cons.mp hx with z | z
      · rw [z]; exact ih.1 _ (List.mem_append_right _ (List.mem_singleton.mpr rfl))
      · exact ih.2.1 x (List.mem_append_right _ z)
    · rename_i n _
      by_cases e : x = n
      · rw [e] at hy
        exact ih.2.1 y (List.mem_append_left _ hy)
      · refine ih.2.2 x h1 (fun z => ?_) y hy
        rcases List.mem_append.mp z with w | w
        · exact h2 w
        · exact e (List.mem_singleton.mp w)
theorem Dfs.nodup {k : Str → List Str} {V l R : List Str} (h : Dfs k V l R) : V.Nodup → R.Nodup := by
  induction h with
  | nil => exact id
  | old _ _ ih => exact ih
  | new hn _ ih =>
    intro hV
    refine ih (List.nodup_append.mpr ⟨hV, by simp, fun a ha b hb z => ?_⟩)
    rw [List.mem_singleton.mp hb] at z
    exact hn (by rw [← z]; exact ha)
theorem closed_rc {k : Str → List Str} {L : List Str} {r : Str} (h0 : r ∈ L) (hc : ∀ x ∈ L, ∀ y ∈ k x, y ∈ L) {m : Str} (h : Rc k r m) : m ∈ L := by
  induction h with
  | base => exact h0
  | step _ e ih => exact hc _ ih _ e
theorem Dfs.mem {k : Str → List Str} {r : Str} {R : List Str} (h : Dfs k [] [r] R) (m : Str) : m ∈ R ↔ Rc k r m := by
  obtain ⟨_, h2, h3⟩ := h.full
  constructor
  · intro hm
    rcases h.sound m hm with z | ⟨y, hy, z⟩
    · simp at z
    · rw [List.mem_singleton.mp hy] at z; exact z
  · exact fun hm => closed_rc (h2 r (List.mem_singleton.mpr rfl)) (fun x hx => h3 x hx (by simp)) hm
theorem mem_k1 {ps : List Pt} {n m : Str} {rs : List Rw} (hn : (ps.map (·.1)).Nodup) (h : (n, rs) ∈ ps) : m ∈ k1 ps n ↔ ∃ r ∈ rs, namesIt "bring" r = some m := by
  unfold k1
  rw [rowsOf_eq hn h]
  exact mem_namedOf "bring" m rs
theorem row_br {H : Hp} {r : Addr} {rw : Rw} (h : RowAt H r rw) : (∃ m rest, namesIt "bring" rw = some m ∧ H r = some (.tup (.str "bring" :: .str m :: rest))) ∨ (¬ kindS rw = "bring" ∧ namesIt "bring" rw = none) := by
  cases rw with
  | bring p ps =>
    obtain ⟨t, h1, h2⟩ := h
    exact .inl ⟨p, _, by simp [namesIt], h1⟩
  | ask p w => exact .inr ⟨by simp only [kindS]; decide +kernel, by simp [namesIt]; decide +kernel⟩
  | _ => exact .inr ⟨by simp only [kindS]; decide +kernel, rfl⟩
def spCome : Sp := fun vs H Q _ => ∃ (a : Addr) (ps : List Pt) (n : Str), vs = [.ref a, .str n] ∧ PartsF H a ps ∧ PsFit ps ∧ ClosedB ps ∧ n ∈ ps.map (·.1) ∧ ∀ (l : Addr) (L : List Str) (H' : Hp), Same H H' → H l = none → H' l = some (.lst (L.map V.str)) → L.length ≤ 24 → (∀ m, m ∈ L ↔ Rc (k1 ps) n m) → Q (.ref l) H'
def muC (σ : L2.St) (_ : Hp) : Nat := match σ[4]? with
  | some (some (V.int i)) => 30 - i.toNat
  | _ => 0
theorem ok_come (T : Txt K mg) : L2.Cl P w K mg base 1 "_law_come" ["_law_parts_here", "_law_root"] spCome := by
  refine Cl.of T.d_law_come sc_law_come (fun vs H Q E h => ?_) (fun _ _ _ _ _ _ us hl => match us, hl with | [_, _], _ => rfl) (fun fa cdv A outer s H vs Q E hr h => ?_)
  · obtain ⟨a, ps, n, rfl, _⟩ := h
    rfl
  · obtain ⟨a, ps, root, rfl, hpf, hfit, hcl, hroot, q⟩ := h
    have hu := hu_of hr
    have hN : (ps.map (·.1)).length ≤ 24 := by rw [List.length_map]; exact hfit.hi
    have hpl := hfit.hi
    obtain ⟨o, vs, ha, ho, hps⟩ := id hpf
    obtain ⟨qs, g1, g2, g3⟩ := parts_pairs (K := K) hps
    have hql : qs.length = ps.length := by
      have := congrArg List.length g2
      simpa using this
    refine ⟨_, (pss_cons (ps_set (i := 2) sc_law_come.nd rfl (Or.inl rfl) (pe_callTy (call_dictT rfl) (by rfl) T.n_dict boot_dict (pa_cons (pv 0) pa_nil)))
      (pss_cons (ps_set (i := 3) sc_law_come.nd rfl (Or.inl rfl) (pe_lst (pa_cons (pv 1) pa_nil)))
      (pss_cons (ps_set (i := 4) sc_law_come.nd rfl (Or.inl rfl) pe_int)
      (pss_cons (ps_while PassesOwn.never (pt_cmpR op_lt (pv 4) (pe_callB call_len_seq (by rfl) T.n_len PySem.boot_len (pa_cons (pv 3) pa_nil)) (nomark _))
        (pss_cons (ps_for PassesOwn.never rfl (pi_tup (pe_dget hu (pv 2) (pe_ix ix_list (pv 3) (pv 4) (fun _ _ => rfl)) (fun _ _ => rfl))) (pg_name (i := 5) sc_law_come.nd rfl (Or.inl rfl))
          (pss_one (ps_if (PW.pt (pw_and (pt_cmpR op_eq (pe_ix ix_tup (pv 5) pe_int (fun _ _ => rfl)) pe_str (nomark _)) (pw_and1 (pt_cmpR op_notIn_seq (pe_ix ix_tup (pv 5) pe_int (fun _ _ => rfl)) (pv 3) (by with_unfolding_all rfl)))))
            (pss_one (ps_expr (pe_bm PySem.F.plainAttrs_list PySem.F.slot_list_append PySem.F.type_list_append mt_append (pv 3) (pa_cons (pe_ix ix_tup (pv 5) pe_int (fun _ _ => rfl)) pa_nil)))) pss_nil)))
        (pss_one (ps_set (i := 4) sc_law_come.nd rfl (Or.inl rfl) (pe_op op_add (pv 4) pe_int)))))
      (pss_one (ps_ret (pv 3))))))), ?_⟩
    refine ⟨_, rfl, a, o, vs, qs, rfl, ha, ho, g1, (by omega), fun e ge => ?_⟩
    have s1 : Same H (upd H e (.dK (foldP qs []))) := (Same.refl H).new ge
    have he1 : upd H e (.dK (foldP qs [])) e = some (.dK (foldP qs [])) := upd_same
    generalize upd H e (.dK (foldP qs [])) = H1 at s1 he1 ⊢
    refine ⟨_, rfl, (by show 1 ≤ sizeLine; decide), fun l gl => ?_⟩
    have glH : H l = none := s1.free gl
    have hel : e ≠ l := fun z => by rw [← z, he1] at gl; cases gl
    have s2 : Same H (upd H1 l (.lst [.str root])) := s1.new gl
    refine to_g ?_
    refine while_by (D := _) (fun σ H2 => ∃ (L : List Str) (i : Nat) (v5 : Option V), σ = [some (.ref a), some (.str root), some (.ref e), some (.ref l), some (.int (i : Int)), v5] ∧ Same H H2 ∧ H2 e = some (.dK (foldP qs [])) ∧ H2 l = some (.lst (L.map V.str)) ∧ L.Nodup ∧ i ≤ L.length ∧ (∀ x ∈ L, x ∈ ps.map (·.1)) ∧ root ∈ L ∧ (∀ x ∈ L, Rc (k1 ps) root x) ∧ ∀ j x, j < i → L[j]? = some x → ∀ y ∈ k1 ps x, y ∈ L) muC
      ⟨[root], 0, none, rfl, s2, upd_keep he1 gl, upd_same, by simp, by simp, fun x hx => by rw [List.mem_singleton.mp hx]; exact hroot, by simp, fun x hx => by rw [List.mem_singleton.mp hx]; exact .base, fun j x hj => by omega⟩ ?_ ?_
    · rintro σ H2 ⟨L, i, v5, rfl, s3, he, hl, hnd, hiL, hLN, hrL, hRc, hcl2⟩
      have hLl := nodup_lenG L _ hnd hLN
      refine ⟨_, rfl, _, rfl, l, _, rfl, .inl (SqL.of hl), _, _, rfl, rfl, _, rfl, ?_⟩
      rw [List.length_map]
      refine ite2 (fun hlt => ?_) (fun hlt => ?_)
      · have hiL' : i < L.length := by have := of_decide_eq_true hlt; omega
        have hx : L[i]? = some L[i] := by simp [hiL']
        have hxN := hLN _ (List.getElem_mem hiL')
        obtain ⟨rs, hmem⟩ := part_of hxN
        obtain ⟨u, ws, k1', k2', k3'⟩ := g3 _ rs hmem
        have hws := s3 _ _ k2'
        have hrs := k3'.mono s3.tups
        have hwl : ws.length = rs.length := Paired.length k3'
        refine ⟨_, rfl, _, rfl, _, rfl, l, _, _, _, rfl, rfl, SqL.of hl, atI_nat (by rw [List.getElem?_map, hx]; rfl), e, .ref u, rfl, ?_, ?_⟩
        · have hg := DGet.k (k := Sum.inr L[i]) he
          rw [foldP_get qs [] L[i] (.ref u) (by rw [g2]; exact hfit.nd) (.inl k1')] at hg
          exact hg
        refine ⟨u, rfl, ⟨_, SqT.of hws⟩, for_tup (K := K) (a := u) (xs := ws) (fun t σ H3 => ∃ (L' : List Str) (v5 : Option V), σ = [some (.ref a), some (.str root), some (.ref e), some (.ref l), some (.int (i : Int)), v5] ∧ Same H H3 ∧ Tups H2 H3 ∧ H3 e = some (.dK (foldP qs [])) ∧ H3 l = some (.lst ((L ++ L').map V.str)) ∧ (L ++ L').Nodup ∧ (∀ x ∈ L ++ L', x ∈ ps.map (·.1)) ∧ (∀ x ∈ L ++ L', Rc (k1 ps) root x) ∧ ∀ r ∈ rs.take t, ∀ m, namesIt "bring" r = some m → m ∈ L ++ L')
          ⟨[], _, rfl, s3, Tups.refl H2, he, by rw [List.append_nil]; exact hl, by rw [List.append_nil]; exact hnd, by rw [List.append_nil]; exact hLN, by rw [List.append_nil]; exact hRc, by simp⟩ (fun t σ H3 _ ⟨_, _, _, _, T3, _⟩ => SqT.of (T3 _ _ hws)) ?_ ?_⟩
        · rintro t y σ H3 hy ⟨L', v5', rfl, s4, T3, he3, hl3, hnd3, hN3, hR3, hc3⟩
          obtain ⟨rw, hrw, r, er, hra⟩ := Paired.get? hrs hy
          subst er
          have hra3 := hra.mono T3
          have hLl3 := nodup_lenG _ _ hnd3 hN3
          have hrwm : rw ∈ rs := List.mem_of_getElem? hrw
          rcases row_br hra3 with ⟨m, rest, hm, hrt⟩ | ⟨hk, hm⟩
          · have z0 : atI (V.str "bring" :: V.str m :: rest) 0 = some (.str "bring") := atI_nat (j := 0) rfl
            have z1 : atI (V.str "bring" :: V.str m :: rest) 1 = some (.str m) := atI_nat (j := 1) rfl
            have hmk : m ∈ k1 ps L[i] := (mem_k1 hfit.nd hmem).mpr ⟨rw, hrwm, hm⟩
            refine ⟨_, rfl, r, _, _, _, rfl, rfl, SqT.of hrt, z0, rfl, _, rfl, iteSE ?_⟩
            refine ⟨_, rfl, r, _, _, _, rfl, rfl, SqT.of hrt, z1, _, rfl, l, _, rfl, .inl (SqL.of hl3), rfl, strs_flat _, _, rfl, ?_⟩
            rw [if_pos rfl, inV_strs]
            by_cases hin : m ∈ L ++ L'
            · rw [decide_eq_true hin]
              refine iteF ?_
              refine ⟨L', _, rfl, s4, T3, he3, hl3, hnd3, hN3, hR3, fun r hr m' hm' => ?_⟩
              rw [take_succ_get hrw] at hr
              rcases List.mem_append.mp hr with z | z
              · exact hc3 r z m' hm'
              · rw [List.mem_singleton.mp z, hm] at hm'
                cases hm'
                exact hin
            · rw [decide_eq_false hin]
              refine iteT ?_
              refine ⟨_, rfl, .inl ⟨rfl, _, SqL.of hl3⟩, _, rfl, r, _, _, _, rfl, rfl, SqT.of hrt, z1, l, _, _, rfl, rfl, hl3, small1000 (by rw [List.length_map]; omega), ?_⟩
              have T4 : Tups H3 (upd H3 l (.lst ((L ++ L').map V.str ++ [.str m]))) := Tups.lst hl3
              have hmN : m ∈ ps.map (·.1) := hcl _ hxN _ hmk
              refine ⟨L' ++ [m], _, rfl, s4.put glH, T3.trans T4, by rw [upd_ne hel]; exact he3, ?_, ?_, ?_, ?_, ?_⟩
              · rw [upd_same, ← List.append_assoc, List.map_append (l₂ := [m])]; rfl
              · rw [← List.append_assoc]
                refine List.nodup_append.mpr ⟨hnd3, by simp, fun a ha b hb z => ?_⟩
                rw [List.mem_singleton.mp hb] at z
                exact hin (by rw [← z]; exact ha)
              · intro x hx
                rw [← List.append_assoc] at hx
                rcases List.mem_append.mp hx with z | z
                · exact hN3 x z
                · rw [List.mem_singleton.mp z]; exact hmN
              · intro x hx
                rw [← List.append_assoc] at hx
                rcases List.mem_append.mp hx with z | z
                · exact hR3 x z
                · rw [List.mem_singleton.mp z]; exact .step (hRc _ (List.getElem_mem hiL')) hmk
              · intro r hr m' hm'
                rw [← List.append_assoc]
                rw [take_succ_get hrw] at hr
                rcases List.mem_append.mp hr with z | z
                · exact List.mem_append_left _ (hc3 r z m' hm')
                · rw [List.mem_singleton.mp z, hm] at hm'
                  cases hm'
                  exact List.mem_append_right _ (List.mem_singleton.mpr rfl)
          · obtain ⟨x1, rest, hrt⟩ := hra3.kind
            have z0 : atI (V.str (kindS rw) :: x1 :: rest) 0 = some (.str (kindS rw)) := atI_nat (j := 0) rfl
            refine ⟨_, rfl, r, _, _, _, rfl, rfl, SqT.of hrt, z0, rfl, _, rfl, iteSN hk (iteF ?_)⟩
            refine ⟨L', _, rfl, s4, T3, he3, hl3, hnd3, hN3, hR3, fun r hr m' hm' => ?_⟩
            rw [take_succ_get hrw] at hr
            rcases List.mem_append.mp hr with z | z
            · exact hc3 r z m' hm'
            · rw [List.mem_singleton.mp z, hm] at hm'
              cases hm'
        · rintro σ H3 ⟨L', v5', rfl, s4, T3, he3, hl3, hnd3, hN3, hR3, hc3⟩
          rw [hwl, List.take_length] at hc3
          refine ⟨_, rfl, _, _, rfl, rfl, ⟨⟨L ++ L', i + 1, _, rfl, s4, he3, hl3, hnd3, by rw [List.length_append]; omega, hN3, List.mem_append_left _ hrL, hR3, fun j x hj hx' y hy => ?_⟩, ?_⟩⟩
          · rw [List.getElem?_append_left (by omega)] at hx'
            by_cases e' : j = i
            · subst e'
              have hxe : x = L[j] := Option.some.inj (hx'.symm.trans hx)
              rw [hxe] at hy
              obtain ⟨r, hr, hm⟩ := (mem_k1 hfit.nd hmem).mp hy
              exact hc3 r hr y hm
            · exact List.mem_append_left _ (hcl2 j x (by omega) hx' y hy)
          · show (30 - ((i : Int) + 1).toNat) < 30 - ((i : Int)).toNat
            omega
      · have hiE : i = L.length := by
          have : ¬ ((i : Int) < (L.length : Int)) := fun z => hlt (decide_eq_true z)
          omega
        refine ⟨_, rfl, q l L H2 s3 glH hl (by omega) fun m => ⟨hRc m, fun hm => ?_⟩⟩
        refine closed_rc hrL (fun x hx y hy => ?_) hm
        obtain ⟨j, hj⟩ := List.getElem?_of_mem hx
        exact hcl2 j x (by have := (List.getElem?_eq_some_iff.mp hj).1; omega) hj y hy
    · rintro σ H2 Q1 Q2 hQ ⟨v, e1, v2, e2, p, xs, e3, h4, i, j, e5, e6, k, e7, h8⟩
      exact ⟨v, e1, v2, e2, p, xs, e3, h4, i, j, e5, e6, k, e7, hQ _ _ h8⟩
open Classical in
noncomputable def rcB (ps : List Pt) (n r : Str) : Bool := decide (Rc (k1 ps) r n)
open Classical in
theorem rcB_iff {ps : List Pt} {n r : Str} : rcB ps n r = true ↔ Rc (k1 ps) r n := by
  unfold rcB
  exact decide_eq_true_iff
def bitsI : List Bool → Int
  | [] => 0
  | b :: r => (if b = true then 1 else 0) + 2 * bitsI r
theorem bitsI_snoc (b : Bool) : ∀ l : List Bool, bitsI (l ++ [b]) = bitsI l + if b = true then 2 ^ l.length else 0
  | [] => by cases b <;> rfl
  | a :: r => by
    have ih := bitsI_snoc b r
    show (if a = true then (1 : Int) else 0) + 2 * bitsI (r ++ [b]) = (if a = true then 1 else 0) + 2 * bitsI r + if b = true then 2 ^ (r.length + 1) else 0
    rw [ih]
    cases b with
    | false => simp
    | true =>
      simp only [if_true]
      rw [Int.pow_succ]
      omega
theorem rc_in {ps : List Pt} (hcl : ClosedB ps) {r m : Str} (hr : r ∈ ps.map (·.1)) (h : Rc (k1 ps) r m) : m ∈ ps.map (·.1) := by
  induction h with
  | base => exact hr
  | step _ e ih => exact hcl _ ih _ e
theorem putK_has {kvs : List (Key × V)} {k : Key} {v y : V} (h : valV kvs k = some v) : (putK kvs k y).length = kvs.length := by
  have e : (kvs.any fun kv => decide (kv.1 = k)) = true := by rw [valV_any, h]; rfl
  unfold putK
  rw [if_pos e, List.length_map]
def spColours : Sp := fun vs H Q _ => ∃ (a b : Addr) (ps : List Pt) (rs : List Str), vs = [.ref a, .ref b] ∧ PartsF H a ps ∧ PsFit ps ∧ ClosedB ps ∧ H b = some (.tup (rs.map V.str)) ∧ (∀ r ∈ rs, r ∈ ps.map (·.1)) ∧ ∀ (d : Addr) (kvs : List (Key × V)) (H' : Hp), Same H H' → H' d = some (.dK kvs) → (∀ n ∈ ps.map (·.1), valV kvs (Sum.inr n) = some (.int (bitsI (rs.map (rcB ps n))))) → Q (.ref d) H'
theorem ok_colours (T : Txt K mg) : L2.Cl P w K mg base 4 "colours" ["parts", "some"] spColours := by
  have C_order := ok_order (P := P) (w := w) (base := base) T
  refine Cl.of T.d_colours sc_colours (fun vs H Q E h => ?_) (fun _ _ _ _ _ _ us hl => match us, hl with | [_, _], _ => rfl) (fun fa cdv A outer s H vs Q E hr h => ?_)
  · obtain ⟨a, b, ps, rs, rfl, _⟩ := h
    rfl
  · obtain ⟨a, b, ps, rs, rfl, hpf, hfit, hcl, hb, hrs, q⟩ := h
    have hu := hu_of hr
    have hpi := hfit.hi
    refine ⟨_, (pss_cons (ps_set (i := 2) sc_colours.nd rfl (Or.inl rfl) pe_dnewK)
      (pss_cons (ps_for PassesOwn.never rfl (pi_tup (pv 0)) (pg_tup rfl (pgs_cons (pg_name (i := 3) sc_colours.nd rfl (Or.inl rfl)) (pgs_cons (pg_name (i := 4) sc_colours.nd rfl (Or.inl rfl)) pgs_nil)))
        (pss_one (ps_dput hu (pv 2) (pv 3) pe_int rfl)))
      (pss_cons (ps_set (i := 5) sc_colours.nd rfl (Or.inl rfl) pe_int)
      (pss_cons (ps_for PassesOwn.never rfl (pi_tup (pv 1)) (pg_name (i := 6) sc_colours.nd rfl (Or.inl rfl))
        (pss_cons (ps_for PassesOwn.never rfl (pi_tup (pe_fn C_order hr (by rfl) (pa_cons (pv 0) (pa_cons (pv 6) pa_nil)))) (pg_name (i := 3) sc_colours.nd rfl (Or.inl rfl))
          (pss_one (ps_daug hu (pv 2) (pv 3) (pv 5) in_add (fun _ _ _ => rfl))))
        (pss_one (ps_aug (i := 5) sc_colours.nd rfl (Or.inl rfl) (pv 5) ip_add))))
      (pss_one (ps_ret (pv 2))))))), ?_⟩
    intro d gd
    have s1 : Same H (upd H d (.dK [])) := (Same.refl H).new gd
    obtain ⟨oo, ws, ha, ho, hps⟩ := id hpf
    have sqa : ∀ {H' : Hp}, Same H H' → SqT K H' a ws := fun s2 => .inl (.inr ⟨oo, s2 _ _ ha⟩)
    have hwl : ws.length = ps.length := Paired.length hps
    refine ⟨_, rfl, a, rfl, ⟨_, sqa s1⟩, for_tup (K := K) (a := a) (xs := ws) (fun i σ H2 => ∃ (kvs : List (Key × V)) (v3 v4 v5 v6 : Option V), σ = [some (.ref a), some (.ref b), some (.ref d), v3, v4, v5, v6] ∧ Same H H2 ∧ H2 d = some (.dK kvs) ∧ kvs.length ≤ i ∧ ∀ n ∈ (ps.map (·.1)).take i, valV kvs (Sum.inr n) = some (.int 0))
      ⟨[], none, none, none, none, rfl, s1, upd_same, by simp, by simp⟩ (fun i σ H2 _ ⟨_, _, _, _, _, _, s2, _⟩ => sqa s2) ?_ ?_⟩
    · rintro i y σ H2 hy ⟨kvs, v3, v4, v5, v6, rfl, s2, hd, hkl, hval⟩
      obtain ⟨pt, hpt, t, u, zs, ey, ht, hu', _⟩ := Paired.get? hps hy
      subst ey
      have hi := (List.getElem?_eq_some_iff.mp hpt).1
      refine ⟨t, _, rfl, SqT.of (s2 _ _ ht), rfl, _, _, rfl, _, _, rfl, rfl, ?_⟩
      refine ⟨_, rfl, _, rfl, d, _, rfl, DPut.k (k := Sum.inr pt.1) hd (small1000 (by omega)), ?_⟩
      refine ⟨putK kvs (Sum.inr pt.1) (.int 0), _, _, _, _, rfl, s2.put gd, upd_same, by have := length_putK kvs (Sum.inr pt.1) (.int 0); omega, fun n hn => ?_⟩
      rw [valV_put]
      by_cases e : n = pt.1
      · rw [if_pos (by rw [e])]
      · rw [if_neg (fun z => e (Sum.inr.inj z))]
        rw [take_succ_get (x := pt.1) (by rw [List.getElem?_map, hpt]; rfl)] at hn
        rcases List.mem_append.mp hn with z | z
        · exact hval n z
        · exact absurd (List.mem_singleton.mp z) e
    · rintro σ H2 ⟨kvs0, v3, v4, v5, v6, rfl, s2, hd0, hkl0, hval0⟩
      rw [hwl] at hkl0 hval0
      rw [List.take_of_length_le (by rw [List.length_map]; omega)] at hval0
      refine ⟨_, rfl, b, rfl, ⟨_, SqT.of (s2 _ _ hb)⟩, for_tup (K := K) (a := b) (xs := rs.map V.str) (fun i σ H3 => ∃ (kvs : List (Key × V)) (v3 v4 v6 : Option V), σ = [some (.ref a), some (.ref b), some (.ref d), v3, v4, some (.int (2 ^ i)), v6] ∧ Same H H3 ∧ H3 d = some (.dK kvs) ∧ kvs.length ≤ 24 ∧ ∀ n ∈ ps.map (·.1), valV kvs (Sum.inr n) = some (.int (bitsI ((rs.take i).map (rcB ps n)))))
        ⟨kvs0, _, _, _, rfl, s2, hd0, by omega, fun n hn => by rw [hval0 n hn]; rfl⟩ (fun i σ H3 _ ⟨_, _, _, _, _, s3, _⟩ => SqT.of (s3 _ _ hb)) ?_ ?_⟩
      · rintro i y σ H3 hy ⟨kvs, v3, v4, v6, rfl, s3, hd3, hkl3, hval3⟩
        obtain ⟨r, hri, rfl⟩ : ∃ r, rs[i]? = some r ∧ y = .str r := by
          rw [List.getElem?_map] at hy
          cases e : rs[i]? with
          | none => rw [e] at hy; cases hy
          | some r => rw [e] at hy; exact ⟨r, rfl, (Option.some.inj hy).symm⟩
        have hrN := hrs r (List.mem_of_getElem? hri)
        refine ⟨_, rfl, _, rfl, a, ps, r, rfl, s3.partsF hpf, hfit, hcl, hrN, fun p R H4 s4 hp hdfs => ?_⟩
        have s34 := s3.trans s4
        have hRm := hdfs.mem
        have hRnd : R.Nodup := hdfs.nodup List.nodup_nil
        refine ⟨p, rfl, ⟨_, SqT.of hp⟩, for_tup (K := K) (a := p) (xs := R.map V.str) (fun j σ H5 => ∃ (kvs : List (Key × V)) (v3 : Option V), σ = [some (.ref a), some (.ref b), some (.ref d), v3, v4, some (.int (2 ^ i)), some (.str r)] ∧ Same H H5 ∧ Tups H4 H5 ∧ H5 d = some (.dK kvs) ∧ kvs.length ≤ 24 ∧ ∀ n ∈ ps.map (·.1), valV kvs (Sum.inr n) = some (.int (bitsI ((rs.take i).map (rcB ps n)) + if n ∈ R.take j then 2 ^ i else 0)))
          ⟨kvs, _, rfl, s34, Tups.refl H4, s4 _ _ hd3, hkl3, fun n hn => by rw [hval3 n hn]; simp⟩ (fun j σ H5 _ ⟨_, _, _, _, T5, _⟩ => SqT.of (T5 _ _ hp)) ?_ ?_⟩
        · rintro j y σ H5 hy ⟨kvs5, v3', rfl, s5, T5, hd5, hkl5, hval5⟩
          obtain ⟨m, hmi, rfl⟩ : ∃ m, R[j]? = some m ∧ y = .str m := by
            rw [List.getElem?_map] at hy
            cases e : R[j]? with
            | none => rw [e] at hy; cases hy
            | some r => rw [e] at hy; exact ⟨r, rfl, (Option.some.inj hy).symm⟩
          have hmN : m ∈ ps.map (·.1) := rc_in hcl hrN ((hRm m).mp (List.mem_of_getElem? hmi))
          have hvm := hval5 m hmN
          have hmt : m ∉ R.take j := by
            intro z
            have h1 : (R.take (j + 1)).Nodup := hRnd.sublist (List.take_sublist _ _)
            rw [take_succ_get hmi] at h1
            exact (List.nodup_append.mp h1).2.2 m z m (List.mem_singleton.mpr rfl) rfl
          rw [if_neg hmt] at hvm
          refine ⟨_, rfl, _, rfl, d, _, rfl, (by have h1 := DGet.k (k := Sum.inr m) hd5; rw [hvm] at h1; exact h1), _, rfl, _, _, rfl, rfl, _, DPut.k (k := Sum.inr m) hd5 (small1000 (by omega)), ?_⟩
          refine ⟨_, _, rfl, s5.put gd, T5.trans (Tups.dK hd5), upd_same, by rw [putK_has hvm]; exact hkl5, fun n hn => ?_⟩
          rw [valV_put, take_succ_get hmi]
          by_cases e : n = m
          · subst e
            rw [if_pos rfl, if_pos (List.mem_append_right _ (List.mem_singleton.mpr rfl)), Int.add_zero]
          · rw [if_neg (fun z => e (Sum.inr.inj z)), hval5 n hn]
            have : (n ∈ R.take j ++ [m]) ↔ n ∈ R.take j := by
              rw [List.mem_append, List.mem_singleton]
              exact ⟨fun z => by rcases z with z | z; exact z; exact absurd z e, .inl⟩
            simp only [this]
        · rintro σ H5 ⟨kvs5, v3', rfl, s5, T5, hd5, hkl5, hval5⟩
          rw [List.length_map, List.take_length] at hval5
          refine ⟨_, rfl, _, rfl, _, _, rfl, rfl, ?_⟩
          refine ⟨kvs5, v3', v4, some (.str r), ?_, s5, hd5, hkl5, fun n hn => ?_⟩
          · show [some (V.ref a), some (V.ref b), some (V.ref d), v3', v4, some (V.int (2 ^ i + 2 ^ i)), some (V.str r)] = _
            rw [Int.pow_succ, show (2 : Int) ^ i * 2 = 2 ^ i + 2 ^ i by omega]
          · rw [hval5 n hn, take_succ_get hri, List.map_append]
            show _ = some (V.int (bitsI ((rs.take i).map (rcB ps n) ++ [rcB ps n r])))
            have hil := (List.getElem?_eq_some_iff.mp hri).1
            rw [bitsI_snoc, List.length_map, List.length_take, Nat.min_eq_left (by omega)]
            have : (n ∈ R) ↔ rcB ps n r = true := by rw [hRm n, rcB_iff]
            simp only [this]
      · rintro σ H3 ⟨kvs, v3, v4, v6, rfl, s3, hd3, hkl3, hval3⟩
        rw [List.length_map, List.take_length] at hval3
        exact ⟨_, rfl, q d kvs H3 s3 hd3 hval3⟩
theorem flat_len : ∀ {ps : List Pt}, (∀ pt ∈ ps, pt.2.length ≤ 40) → (ps.flatMap fun pt => pt.2.filterMap askN).length ≤ 40 * ps.length
  | [], _ => by simp
  | pt :: r, h => by
    have h1 := flat_len (ps := r) fun p hp => h p (List.mem_cons_of_mem _ hp)
    have h2 := h pt List.mem_cons_self
    have h3 : (pt.2.filterMap askN).length ≤ pt.2.length := List.length_filterMap_le _ _
    rw [List.flatMap_cons, List.length_append, List.length_cons]
    omega
theorem closedB_of {ps : List Pt} {nms : List Str} (hnm : ps.map (·.1) = nms) (hnd : nms.Nodup) (h : ∀ pt ∈ ps, ∀ r ∈ pt.2, InN nms r) : ClosedB ps := fun n hn m hm => by
  obtain ⟨rs, hmem⟩ := part_of hn
  obtain ⟨r, hr, e⟩ := (mem_k1 (by rw [hnm]; exact hnd) hmem).mp hm
  have h1 := h _ hmem r hr
  rw [hnm]
  cases r with
  | bring p ps' =>
    have : p = m := by simpa [namesIt] using e
    rw [← this]; exact h1
  | ask p w =>
    have : namesIt "bring" (.ask p w) = none := by simp [namesIt]; decide +kernel
    rw [this] at e
    cases e
  | _ => cases e
def LsD (D : Addr) (H : Hp) (v : V) (L : List Str) : Prop := ∃ t, v = .ref t ∧ t ≠ D ∧ H t = some (.lst (L.map V.str))
theorem comp_lst {K : PySem.W.Frag} {a : Addr} {xs : List V} {g : TG} {tt : TT} {te : TE} {Q : Hp → Prop} {σ : L2.St} {H : Hp} {D : Addr} (Pv : Nat → L2.St → Hp → Prop) (h0 : Pv 0 σ (upd H D (.lst [])))
    (hl : ∀ i σ2 H2, Pv i σ2 H2 → SqL K H2 a xs)
    (hs : ∀ i x σ2 H2, xs[i]? = some x → Pv i σ2 H2 → g x σ2 H2 fun σ4 H4 => tt σ4 H4 fun b H5 =>
      if b = true then te σ4 H5 fun y H6 => ∃ ys, H6 D = some (.lst ys) ∧ ys.length < sizeLine ∧ Pv (i + 1) σ4 (upd H6 D (.lst (ys ++ [y]))) else Pv (i + 1) σ4 H5)
    (hd : ∀ σ2 H2, Pv xs.length σ2 H2 → Q H2) :
    ∃ W : Nat → Nat → L2.St → Hp → Prop, (∃ m, W 0 m σ (upd H D (.lst []))) ∧ ∀ i m σ2 H2, W i m σ2 H2 →
      ((Itl K a).stop i H2 ∧ Q H2) ∨ ((Itl K a).go i H2 ∧ ∃ N : L2.St → Hp → Prop, (∀ σ' H', N σ' H' → ∃ m', m' < m ∧ W (i + 1) m' σ' H') ∧ ∀ x H3, (Itl K a).yld i H2 x H3 → g x σ2 H3 fun σ4 H4 => tt σ4 H4 fun b H5 =>
        if b = true then te σ4 H5 fun y H6 => ∃ ys, H6 D = some (.lst ys) ∧ ys.length < sizeLine ∧ N σ4 (upd H6 D (.lst (ys ++ [y]))) else N σ4 H5) := by
  refine comp_by xs.length Pv h0 (fun i σ2 H2 hi p => ?_) fun σ2 H2 p => ⟨⟨xs, hl _ _ _ p, Nat.le_refl _⟩, hd _ _ p⟩
  have e := List.getElem?_eq_getElem hi
  refine ⟨⟨xs, _, hl _ _ _ p, e⟩, fun x H3 hy => ?_⟩
  obtain ⟨rfl, hx⟩ := hy
  exact hs i x σ2 H3 (hx xs (hl _ _ _ p)) p
def ddS (f : Str → Int) (acc : List Int) (n : Str) : List Int := if 0 < f n ∧ f n ∉ acc then acc ++ [f n] else acc
def dd (f : Str → Int) (l : List Str) : List Int := l.foldl (ddS f) []
theorem dd_snoc (f : Str → Int) (l : List Str) (n : Str) : dd f (l ++ [n]) = ddS f (dd f l) n := by unfold dd; rw [List.foldl_append]; rfl
theorem ddS_mem {f : Str → Int} {acc : List Int} {n : Str} {t : Int} : t ∈ ddS f acc n ↔ t ∈ acc ∨ (0 < t ∧ f n = t) := by
  unfold ddS
  by_cases h : 0 < f n ∧ f n ∉ acc
  · rw [if_pos h, List.mem_append, List.mem_singleton]
    constructor
    · rintro (z | z)
      · exact .inl z
      · exact .inr ⟨by rw [z]; exact h.1, z.symm⟩
    · rintro (z | ⟨_, z⟩)
      · exact .inl z
      · exact .inr z.symm
  · rw [if_neg h]
    constructor
    · exact .inl
    · rintro (z | ⟨z1, z2⟩)
      · exact z
      · by_cases hm : f n ∈ acc
        · rw [← z2]; exact hm
        · exact absurd ⟨by rw [z2]; exact z1, hm⟩ h
theorem dd_fold {f : Str → Int} {t : Int} : ∀ (l : List Str) (acc : List Int), t ∈ l.foldl (ddS f) acc ↔ t ∈ acc ∨ (0 < t ∧ ∃ n ∈ l, f n = t)
  | [], acc => by simp
  | a :: r, acc => by
    rw [List.foldl_cons, dd_fold r, ddS_mem]
    constructor
    · rintro ((z | ⟨z1, z2⟩) | ⟨z1, n, hn, z2⟩)
      · exact .inl z
      · exact .inr ⟨z1, a, List.mem_cons_self, z2⟩
      · exact .inr ⟨z1, n, List.mem_cons_of_mem _ hn, z2⟩
    · rintro (z | ⟨z1, n, hn, z2⟩)
      · exact .inl (.inl z)
      · rcases List.mem_cons.mp hn with z | z
        · exact .inl (.inr ⟨z1, by rw [← z]; exact z2⟩)
        · exact .inr ⟨z1, n, z, z2⟩
theorem dd_mem {f : Str → Int} {l : List Str} {t : Int} : t ∈ dd f l ↔ 0 < t ∧ ∃ n ∈ l, f n = t := by
  unfold dd
  rw [dd_fold]
  simp
theorem dd_len {f : Str → Int} : ∀ (l : List Str) (acc : List Int), (l.foldl (ddS f) acc).length ≤ acc.length + l.length
  | [], acc => by simp
  | a :: r, acc => by
    rw [List.foldl_cons]
    have h1 := dd_len (f := f) r (ddS f acc a)
    have h2 : (ddS f acc a).length ≤ acc.length + 1 := by
      unfold ddS
      split
      · rw [List.length_append]; exact Nat.le_refl _
      · omega
    rw [List.length_cons]
    omega
def gn (f : Str → Int) (l : List Str) (t : Int) : List Str := l.filter fun m => decide (f m = t)
theorem gn_snoc (f : Str → Int) (l : List Str) (n : Str) (t : Int) : gn f (l ++ [n]) t = gn f l t ++ if f n = t then [n] else [] := by
  unfold gn
  rw [List.filter_append, List.filter_cons, List.filter_nil]
  by_cases h : f n = t
  · rw [if_pos (decide_eq_true h), if_pos h]
  · rw [if_neg (by rw [decide_eq_false h]; decide), if_neg h]
theorem gn_none {f : Str → Int} {l : List Str} {t : Int} (h : ∀ n ∈ l, f n ≠ t) : gn f l t = [] := by
  unfold gn
  rw [List.filter_eq_nil_iff]
  intro a ha
  rw [decide_eq_false (h a ha)]
  decide
def szR (rs : List Rw) : Int := 1 + ((rs.filter fun r => !decide (kindS r = "give")).length : Int)
def szN (ps : List Pt) (names : List Str) : Int := ((ps.filter fun pt => decide (pt.1 ∈ names)).map fun pt => szR pt.2).sum
theorem sz_names {ps : List Pt} (hnd : (ps.map (·.1)).Nodup) (f : Str → Int) (t : Int) : szN ps (gn f (ps.map (·.1)) t) = ((gn f (ps.map (·.1)) t).map fun n => szR (rowsOf ps n)).sum := by
  unfold szN
  have e1 : (ps.filter fun pt => decide (pt.1 ∈ gn f (ps.map (·.1)) t)) = ps.filter fun pt => decide (f pt.1 = t) := by
    refine List.filter_congr fun pt hpt => ?_
    rw [Bool.eq_iff_iff, decide_eq_true_iff, decide_eq_true_iff]
    unfold gn
    rw [List.mem_filter]
    constructor
    · rintro ⟨_, h⟩; exact of_decide_eq_true h
    · intro h; exact ⟨List.mem_map.mpr ⟨pt, hpt, rfl⟩, decide_eq_true h⟩
  have e2 : gn f (ps.map (·.1)) t = (ps.filter fun pt => decide (f pt.1 = t)).map (·.1) := by
    unfold gn
    rw [List.filter_map]
    rfl
  rw [e1, e2, List.map_map]
  congr 1
  refine List.map_congr_left fun pt hpt => ?_
  have hm := (List.mem_filter.mp hpt).1
  show szR pt.2 = szR (rowsOf ps pt.1)
  rw [rowsOf_eq hnd hm]
theorem comp_tup {K : PySem.W.Frag} {a : Addr} {xs : List V} {g : TG} {tt : TT} {te : TE} {Q : Hp → Prop} {σ : L2.St} {H : Hp} {D : Addr} (Pv : Nat → L2.St → Hp → Prop) (h0 : Pv 0 σ (upd H D (.lst [])))
    (hl : ∀ i σ2 H2, Pv i σ2 H2 → SqT K H2 a xs)
    (hs : ∀ i x σ2 H2, xs[i]? = some x → Pv i σ2 H2 → g x σ2 H2 fun σ4 H4 => tt σ4 H4 fun b H5 =>
      if b = true then te σ4 H5 fun y H6 => ∃ ys, H6 D = some (.lst ys) ∧ ys.length < sizeLine ∧ Pv (i + 1) σ4 (upd H6 D (.lst (ys ++ [y]))) else Pv (i + 1) σ4 H5)
    (hd : ∀ σ2 H2, Pv xs.length σ2 H2 → Q H2) :
    ∃ W : Nat → Nat → L2.St → Hp → Prop, (∃ m, W 0 m σ (upd H D (.lst []))) ∧ ∀ i m σ2 H2, W i m σ2 H2 →
      ((Itt K a).stop i H2 ∧ Q H2) ∨ ((Itt K a).go i H2 ∧ ∃ N : L2.St → Hp → Prop, (∀ σ' H', N σ' H' → ∃ m', m' < m ∧ W (i + 1) m' σ' H') ∧ ∀ x H3, (Itt K a).yld i H2 x H3 → g x σ2 H3 fun σ4 H4 => tt σ4 H4 fun b H5 =>
        if b = true then te σ4 H5 fun y H6 => ∃ ys, H6 D = some (.lst ys) ∧ ys.length < sizeLine ∧ N σ4 (upd H6 D (.lst (ys ++ [y]))) else N σ4 H5) := by
  refine comp_by xs.length Pv h0 (fun i σ2 H2 hi p => ?_) fun σ2 H2 p => ⟨⟨xs, hl _ _ _ p, Nat.le_refl _⟩, hd _ _ p⟩
  have e := List.getElem?_eq_getElem hi
  refine ⟨⟨xs, _, hl _ _ _ p, e⟩, fun x H3 hy => ?_⟩
  obtain ⟨rfl, hx⟩ := hy
  exact hs i x σ2 H3 (hx xs (hl _ _ _ p)) p
theorem row_kd {H : Hp} {r : Addr} {rw : Rw} (h : RowAt H r rw) : ∃ rest, H r = some (.tup (.str (kindS rw) :: rest)) := by
  cases rw with
  | bring p ps => obtain ⟨t, h1, _⟩ := h; exact ⟨_, h1⟩
  | give o g => exact ⟨_, h⟩
  | set o ts => obtain ⟨t, h1, _⟩ := h; exact ⟨_, h1⟩
  | take o => exact ⟨_, h⟩
  | say ts z => obtain ⟨t, h1, _⟩ := h; exact ⟨_, h1⟩
  | need ts => obtain ⟨t, h1, _⟩ := h; exact ⟨_, h1⟩
  | ask p z => exact ⟨_, h⟩
  | part p => exact ⟨_, h⟩
  | doo p => exact ⟨_, h⟩
def ngB (r : Rw) : Bool := !decide (kindS r = "give")
theorem filt_snoc {α : Type} {p : α → Bool} {l : List α} {i : Nat} {x : α} (h : l[i]? = some x) : (l.take (i + 1)).filter p = (l.take i).filter p ++ if p x = true then [x] else [] := by
  rw [take_succ_get h, List.filter_append, List.filter_cons, List.filter_nil]
def spSzp : Sp := fun vs H Q _ => ∃ (u : Addr) (zs : List V) (rws : List Rw), vs = [.ref u] ∧ H u = some (.tup zs) ∧ RowsAt H zs rws ∧ rws.length ≤ 40 ∧ ∀ H', Same H H' → Q (.int (szR rws)) H'
theorem ok_szp (T : Txt K mg) : L2.Cl P w K mg base 1 "size_of_part" ["rows"] spSzp := by
  refine Cl.of T.d_size_of_part sc_size_of_part (fun vs H Q E h => ?_) (fun _ _ _ _ _ _ us hl => match us, hl with | [_], _ => rfl) (fun fa cdv A outer s H vs Q E hr h => ?_)
  · obtain ⟨u, zs, rws, rfl, _⟩ := h
    rfl
  · obtain ⟨u, zs, rws, rfl, hu, hrs, h40, q⟩ := h
    have hzl : zs.length = rws.length := Paired.length hrs
    refine ⟨_, (pss_one (ps_ret (pe_op op_add pe_int (pe_callB call_len_seq (by rfl) T.n_len PySem.boot_len (pa_cons (pe_comp (M := ["row"]) (ρ := [none]) (defScope s_size_of_part) ["rows"] ⟨rfl, by decide +kernel, by decide +kernel, by decide +kernel, rfl, by decide +kernel, by decide +kernel⟩ (pi_tup (pv 0)) (fun _ _ _ _ _ _ => (pg_name (i := 0) (show (["row"] : List Str).Nodup by decide +kernel) rfl (Or.inl rfl))) (fun _ _ _ _ _ _ => (pts_one (pt_cmpR op_ne (pe_ix (ix_tupK (K := K) rfl) (pv 0) pe_int (fun _ _ => rfl)) pe_str (nomark _)))) (fun _ _ _ _ _ _ => (pv 0))) pa_nil))))), ?_⟩
    refine ⟨_, rfl, u, rfl, ⟨_, SqT.of hu⟩, fun D gD => ?_⟩
    refine comp_tup (K := K) (a := u) (xs := zs) (fun i σ H2 => ∃ (v0 : Option V) (ys : List V), σ = [v0] ∧ Same H H2 ∧ H2 D = some (.lst ys) ∧ ys.length = ((rws.take i).filter ngB).length) ⟨_, [], rfl, (Same.refl H).new gD, upd_same, rfl⟩ (fun i σ H2 ⟨_, _, _, s2, _⟩ => SqT.of (s2 _ _ hu)) ?_ ?_
    · rintro i x σ H2 hx ⟨v0, ys, rfl, s2, hD, hyl⟩
      obtain ⟨rw, hrw, r, er, hra⟩ := Paired.get? hrs hx
      subst er
      obtain ⟨rest, hk⟩ := row_kd (hra.mono s2.tups)
      have hfl := List.length_filter_le ngB (rws.take i)
      rw [List.length_take] at hfl
      refine ⟨_, rfl, r, _, _, _, rfl, rfl, SqT.of hk, atI_nat (j := 0) rfl, rfl, _, rfl, ?_⟩
      have eb : (!decide (V.str (kindS rw) = V.str "give")) = ngB rw := by
        unfold ngB
        by_cases z : kindS rw = "give"
        · rw [decide_eq_true z, z]; rfl
        · rw [decide_eq_false z, decide_eq_false (fun y => z (V.str.inj y))]
      rw [eb]
      cases hb : ngB rw with
      | true =>
        refine iteT ⟨_, rfl, _, hD, small1000 (by omega), _, ys ++ [.ref r], rfl, s2.put gD, upd_same, ?_⟩
        rw [filt_snoc hrw, if_pos hb, List.length_append, List.length_append, hyl]
        rfl
      | false =>
        refine iteF ⟨_, ys, rfl, s2, hD, ?_⟩
        rw [filt_snoc hrw, if_neg (by rw [hb]; decide), List.append_nil]
        exact hyl
    · rintro σ H2 ⟨v0, ys, rfl, s2, hD, hyl⟩
      rw [hzl, List.take_of_length_le (Nat.le_refl _)] at hyl
      refine ⟨D, _, rfl, .inl (SqL.of hD), _, _, rfl, rfl, ?_⟩
      show Q (.int (1 + (ys.length : Int))) H2
      rw [hyl]
      exact q H2 s2
def spSz : Sp := fun vs H Q _ => ∃ (a l : Addr) (ps : List Pt) (names : List Str), vs = [.ref a, .ref l] ∧ PartsF H a ps ∧ PsFit ps ∧ H l = some (.lst (names.map V.str)) ∧ ∀ H', Same H H' → Q (.int (szN ps names)) H'
theorem ok_sz (T : Txt K mg) : L2.Cl P w K mg base 2 "size_of" ["parts", "names"] spSz := by
  have C_size_of_part := ok_szp (P := P) (w := w) (base := base) T
  refine Cl.of T.d_size_of sc_size_of (fun vs H Q E h => ?_) (fun _ _ _ _ _ _ us hl => match us, hl with | [_, _], _ => rfl) (fun fa cdv A outer s H vs Q E hr h => ?_)
  · obtain ⟨a, l, ps, names, rfl, _⟩ := h
    rfl
  · obtain ⟨a, l, ps, names, rfl, hpf, hfit, hl, q⟩ := h
    obtain ⟨oo, ws, ha, ho, hps⟩ := id hpf
    have sqa : ∀ {H' : Hp}, Same H H' → SqT K H' a ws := fun s2 => .inl (.inr ⟨oo, s2 _ _ ha⟩)
    have hwl : ws.length = ps.length := Paired.length hps
    have hpi := hfit.hi
    refine ⟨_, (pss_one (ps_ret (pe_callB (call_sum rfl) (by rfl) T.n_sum boot_sum (pa_cons (pe_comp (M := ["part", "rows", "names"]) (ρ := [none, none, some 1]) (defScope s_size_of) ["parts", "names"] ⟨rfl, by decide +kernel, by decide +kernel, by decide +kernel, rfl, by decide +kernel, by decide +kernel⟩ (pi_tup (pv 0)) (fun _ _ _ _ _ _ => (pg_tupK (K := K) (n := 2) rfl rfl (pgs_cons (pg_name (i := 0) (show (["part", "rows", "names"] : List Str).Nodup by decide +kernel) rfl (Or.inl rfl)) (pgs_cons (pg_name (i := 1) (show (["part", "rows", "names"] : List Str).Nodup by decide +kernel) rfl (Or.inl rfl)) pgs_nil)))) (fun _ _ _ _ _ _ => (pts_one (pt_cmpR (op_in_seqK (K := K) rfl) (pv 0) (pv 2) (by with_unfolding_all rfl)))) (fun _ _ _ _ _ _ => (pe_fn C_size_of_part hr (by rfl) (pa_cons (pv 1) pa_nil)))) pa_nil)))), ?_⟩
    refine ⟨_, rfl, a, rfl, ⟨_, sqa (Same.refl H)⟩, fun D gD => ?_⟩
    refine comp_tup (K := K) (a := a) (xs := ws) (fun i σ H2 => ∃ (v0 v1 : Option V), σ = [v0, v1, some (.ref l)] ∧ Same H H2 ∧ H2 D = some (.lst ((((ps.take i).filter fun pt => decide (pt.1 ∈ names)).map fun pt => szR pt.2).map V.int))) ⟨_, _, rfl, (Same.refl H).new gD, upd_same⟩ (fun i σ H2 ⟨_, _, _, s2, _⟩ => sqa s2) ?_ ?_
    · rintro i x σ H2 hx ⟨v0, v1, rfl, s2, hD⟩
      obtain ⟨pt, hpt, t, u, zs, ey, ht, hu', hrs⟩ := Paired.get? hps hx
      subst ey
      have h40 := hfit.rows _ (List.mem_of_getElem? hpt)
      have hi : i < ps.length := (List.getElem?_eq_some_iff.mp hpt).1
      have hfl := List.length_filter_le (fun pt : Pt => decide (pt.1 ∈ names)) (ps.take i)
      rw [List.length_take] at hfl
      refine ⟨t, _, rfl, SqT.of (s2 _ _ ht), rfl, _, _, rfl, _, _, rfl, rfl, ?_⟩
      refine ⟨_, rfl, _, rfl, l, _, rfl, .inl (SqL.of (s2 _ _ hl)), rfl, strs_flat _, _, rfl, ?_⟩
      rw [if_neg Bool.false_ne_true, inV_strs]
      cases hb : decide (pt.1 ∈ names) with
      | true =>
        refine iteT ⟨_, rfl, u, zs, pt.2, rfl, s2 _ _ hu', Paired.mapP hrs fun _ _ ⟨r, e, h⟩ => ⟨r, e, h.mono s2.tups⟩, h40, fun H3 s3 => ?_⟩
        refine ⟨_, s3 _ _ hD, small1000 (by rw [List.length_map, List.length_map]; omega), _, _, rfl, (s2.trans s3).put gD, ?_⟩
        rw [upd_same, filt_snoc hpt, if_pos hb, List.map_append, List.map_append]
        rfl
      | false =>
        refine iteF ⟨_, _, rfl, s2, ?_⟩
        rw [filt_snoc hpt, if_neg (by rw [hb]; decide), List.append_nil]
        exact hD
    · rintro σ H2 ⟨v0, v1, rfl, s2, hD⟩
      rw [hwl, List.take_of_length_le (Nat.le_refl _)] at hD
      exact ⟨D, _, rfl, SqL.of hD, q H2 s2⟩
def MemR (f : Str → Int) (l : List Str) (H : Hp) (kv : Key × V) (t : Int) : Prop := ∃ p, kv.1 = Sum.inl t ∧ kv.2 = .ref p ∧ H p = some (.lst ((gn f l t).map V.str))
structure Mem (f : Str → Int) (l : List Str) (H : Hp) (kvs : List (Key × V)) : Prop where
  at' : Paired (MemR f l H) kvs (dd f l)
  inj : ∀ a ∈ kvs, ∀ b ∈ kvs, a.2 = b.2 → a.1 = b.1
  uniq : ∀ a ∈ kvs, ∀ b ∈ kvs, a.1 = b.1 → a = b
theorem Mem.keep {f : Str → Int} {l : List Str} {H H' : Hp} {kvs : List (Key × V)} (m : Mem f l H kvs) (k : ∀ b xs, H b = some (.lst xs) → H' b = some (.lst xs)) : Mem f l H' kvs :=
  ⟨Paired.mapP m.at' fun _ _ ⟨p, h1, h2, h3⟩ => ⟨p, h1, h2, k _ _ h3⟩, m.inj, m.uniq⟩
theorem mem_find {f : Str → Int} {l : List Str} {H : Hp} {t : Int} : ∀ {kvs : List (Key × V)} {ts : List Int}, Paired (MemR f l H) kvs ts → (t ∈ ts → ∃ p, valV kvs (Sum.inl t) = some (.ref p) ∧ (Sum.inl t, V.ref p) ∈ kvs ∧ H p = some (.lst ((gn f l t).map V.str))) ∧ (t ∉ ts → valV kvs (Sum.inl t) = none)
  | _, _, .nil => ⟨fun h => (by cases h), fun _ => rfl⟩
  | _, _, .cons (a := kv) (b := t') ⟨p, h1, h2, h3⟩ r => by
    have ih := mem_find (t := t) r
    by_cases e : t' = t
    · subst e
      refine ⟨fun _ => ⟨p, ?_, ?_, h3⟩, fun h => absurd List.mem_cons_self h⟩
      · rw [valV_pos h1, h2]
      · rw [← h1, ← h2]; exact List.mem_cons_self
    · have hk : ¬ kv.1 = Sum.inl t := fun z => e (Sum.inl.inj (h1.symm.trans z))
      refine ⟨fun h => ?_, fun h => ?_⟩
      · rcases List.mem_cons.mp h with z | z
        · exact absurd z.symm e
        · obtain ⟨p', q1, q2, q3⟩ := ih.1 z
          exact ⟨p', by rw [valV_neg hk]; exact q1, List.mem_cons_of_mem _ q2, q3⟩
      · rw [valV_neg hk]
        exact ih.2 fun z => h (List.mem_cons_of_mem _ z)
theorem Mem.add {f : Str → Int} {l : List Str} {H : Hp} {kvs : List (Key × V)} (m : Mem f l H kvs) {n : Str} (h0 : 0 < f n) (hin : f n ∈ dd f l) {p : Addr} (hp : (Sum.inl (f n), V.ref p) ∈ kvs) :
    Mem f (l ++ [n]) (upd H p (.lst ((gn f l (f n)).map V.str ++ [.str n]))) kvs := by
  refine ⟨?_, m.inj, m.uniq⟩
  rw [dd_snoc]
  unfold ddS
  rw [if_neg (fun z => z.2 hin)]
  have key : ∀ {ks : List (Key × V)} {ts : List Int}, Paired (MemR f l H) ks ts → (∀ x ∈ ks, x ∈ kvs) → Paired (MemR f (l ++ [n]) (upd H p (.lst ((gn f l (f n)).map V.str ++ [.str n])))) ks ts := by
    intro ks ts h
    induction h with
    | nil => intro _; exact .nil
    | cons hr _ ih =>
      intro hs
      refine .cons ?_ (ih fun x hx => hs x (List.mem_cons_of_mem _ hx))
      obtain ⟨q, h1, h2, h3⟩ := hr
      refine ⟨q, h1, h2, ?_⟩
      rw [gn_snoc]
      rename_i kv t _ _ _
      by_cases e : f n = t
      · rw [if_pos e]
        have hq : q = p := by
          have h5 := m.uniq _ (hs _ List.mem_cons_self) _ hp (by rw [h1, e])
          rw [h5] at h2
          exact (V.ref.inj h2).symm
        rw [hq, upd_same, ← e, List.map_append]
        rfl
      · rw [if_neg e, List.append_nil]
        have hq : q ≠ p := fun z => by
          have := m.inj _ (hs _ List.mem_cons_self) _ hp (by rw [h2, z])
          rw [h1] at this
          exact e (Sum.inl.inj this).symm
        rw [upd_ne hq]
        exact h3
  exact key m.at' fun x hx => hx
theorem Mem.new {f : Str → Int} {l : List Str} {H H' : Hp} {kvs : List (Key × V)} (m : Mem f l H kvs) {n : Str} (h0 : 0 < f n) (hin : f n ∉ dd f l) {z : Addr} (hz : H z = none) (k : ∀ b xs, H b = some (.lst xs) → H' b = some (.lst xs)) (hz' : H' z = some (.lst [.str n])) :
    Mem f (l ++ [n]) H' (kvs ++ [(Sum.inl (f n), .ref z)]) := by
  have hall : ∀ {ks : List (Key × V)} {ts : List Int}, Paired (MemR f l H) ks ts → (∀ x ∈ ks, ∃ t ∈ ts, x.1 = Sum.inl t ∧ x.2 ≠ .ref z) := by
    intro ks ts h
    induction h with
    | nil => intro x hx; cases hx
    | cons hr _ ih =>
      intro x hx
      rcases List.mem_cons.mp hx with e | e
      · obtain ⟨q, h1, h2, h3⟩ := hr
        refine ⟨_, List.mem_cons_self, by rw [e]; exact h1, fun y => ?_⟩
        rw [e, h2] at y
        rw [V.ref.inj y, hz] at h3
        cases h3
      · obtain ⟨t, ht, h⟩ := ih x e
        exact ⟨t, List.mem_cons_of_mem _ ht, h⟩
  have hal := hall m.at'
  have hgn : gn f l (f n) = [] := gn_none fun x hx e => hin (dd_mem.mpr ⟨h0, x, hx, e⟩)
  refine ⟨?_, fun a ha b hb e => ?_, fun a ha b hb e => ?_⟩
  · rw [dd_snoc]
    unfold ddS
    rw [if_pos ⟨h0, hin⟩]
    refine Paired.snoc ?_ ⟨z, rfl, rfl, ?_⟩
    · have key : ∀ {ks : List (Key × V)} {ts : List Int}, Paired (MemR f l H) ks ts → (∀ t ∈ ts, t ∈ dd f l) → Paired (MemR f (l ++ [n]) H') ks ts := by
        intro ks ts h
        induction h with
        | nil => intro _; exact .nil
        | cons hr _ ih =>
          intro hs
          refine .cons ?_ (ih fun x hx => hs x (List.mem_cons_of_mem _ hx))
          obtain ⟨q, h1, h2, h3⟩ := hr
          refine ⟨q, h1, h2, ?_⟩
          rw [gn_snoc, if_neg (fun e => hin (by rw [e]; exact hs _ List.mem_cons_self)), List.append_nil]
          exact k _ _ h3
      exact key m.at' fun t ht => ht
    · rw [gn_snoc, hgn, if_pos rfl]
      exact hz'
  · rcases List.mem_append.mp ha with za | za
    · rcases List.mem_append.mp hb with zb | zb
      · exact m.inj a za b zb e
      · obtain ⟨t, ht, h1, h2⟩ := hal a za
        rw [List.mem_singleton.mp zb] at e
        exact absurd e h2
    · rcases List.mem_append.mp hb with zb | zb
      · obtain ⟨t, ht, h1, h2⟩ := hal b zb
        rw [List.mem_singleton.mp za] at e
        exact absurd e.symm h2
      · rw [List.mem_singleton.mp za, List.mem_singleton.mp zb]
  · rcases List.mem_append.mp ha with za | za
    · rcases List.mem_append.mp hb with zb | zb
      · exact m.uniq a za b zb e
      · obtain ⟨t, ht, h1, h2⟩ := hal a za
        rw [List.mem_singleton.mp zb, h1] at e
        exact absurd ((Sum.inl.inj e) ▸ ht) hin
    · rcases List.mem_append.mp hb with zb | zb
      · obtain ⟨t, ht, h1, h2⟩ := hal b zb
        rw [List.mem_singleton.mp za, h1] at e
        exact absurd ((Sum.inl.inj e).symm ▸ ht) hin
      · rw [List.mem_singleton.mp za, List.mem_singleton.mp zb]
theorem Mem.skip {f : Str → Int} {l : List Str} {H : Hp} {kvs : List (Key × V)} (m : Mem f l H kvs) {n : Str} (h0 : ¬ 0 < f n) : Mem f (l ++ [n]) H kvs := by
  refine ⟨?_, m.inj, m.uniq⟩
  rw [dd_snoc]
  unfold ddS
  rw [if_neg (fun z => h0 z.1)]
  have key : ∀ {ks : List (Key × V)} {ts : List Int}, Paired (MemR f l H) ks ts → (∀ t ∈ ts, t ∈ dd f l) → Paired (MemR f (l ++ [n]) H) ks ts := by
    intro ks ts h
    induction h with
    | nil => intro _; exact .nil
    | cons hr _ ih =>
      intro hs
      refine .cons ?_ (ih fun x hx => hs x (List.mem_cons_of_mem _ hx))
      obtain ⟨q, h1, h2, h3⟩ := hr
      refine ⟨q, h1, h2, ?_⟩
      rw [gn_snoc, if_neg (fun e => h0 (by rw [e]; exact (dd_mem.mp (hs _ List.mem_cons_self)).1)), List.append_nil]
      exact h3
  exact key m.at' fun t ht => ht
def GrAt (ps : List Pt) (f : Str → Int) (H : Hp) (v : V) (t : Int) : Prop := ∃ g tn, v = .ref g ∧ H g = some (.tup [.int t, .ref tn, .int (szN ps (gn f (ps.map (·.1)) t))]) ∧ H tn = some (.tup ((gn f (ps.map (·.1)) t).map V.str))
noncomputable def tintF (ps : List Pt) (rs : List Str) (n : Str) : Int := bitsI (rs.map (rcB ps n))
theorem roots_in {ps : List Pt} {bs : List Str} (h : ∀ r ∈ bs, r ∈ ps.map (·.1)) : ∀ r ∈ rootsOf ps bs, r ∈ ps.map (·.1) := fun r hr => by
  rcases List.mem_append.mp hr with z | z
  · exact h r z
  · exact (List.mem_filter.mp z).1
def spGr : Sp := fun vs H Q _ => ∃ (a b : Addr) (ps : List Pt) (bs : List Str), vs = [.ref a, .ref b] ∧ PartsF H a ps ∧ PsFit ps ∧ ClosedB ps ∧ H b = some (.tup (bs.map V.str)) ∧ bs.length ≤ 24 ∧ (∀ r ∈ bs, r ∈ ps.map (·.1)) ∧ ∀ (g : Addr) (gs : List V) (H' : Hp), Same H H' → H' g = some (.tup gs) → Paired (GrAt ps (tintF ps (rootsOf ps bs)) H') gs (dd (tintF ps (rootsOf ps bs)) (ps.map (·.1))) → Q (.ref g) H'
theorem ok_groups (T : Txt K mg) : L2.Cl P w K mg base 5 "groups" ["parts", "beginnings"] spGr := by
  have C_roots := ok_roots (P := P) (w := w) (base := base) T
  have C_colours := ok_colours (P := P) (w := w) (base := base) T
  have C_size_of := ok_sz (P := P) (w := w) (base := base) T
  refine Cl.of T.d_groups sc_groups (fun vs H Q E h => ?_) (fun _ _ _ _ _ _ us hl => match us, hl with | [_, _], _ => rfl) (fun fa cdv A outer s H vs Q E hr h => ?_)
  · obtain ⟨a, b, ps, bs, rfl, _⟩ := h
    rfl
  · obtain ⟨a, b, ps, bs, rfl, hpf, hfit, hcl, hb, hbl, hbs, q⟩ := h
    have hu := hu_of hr
    have hpi := hfit.hi
    refine ⟨_, (pss_cons (ps_set (i := 2) sc_groups.nd rfl (Or.inl rfl) (pe_fn C_colours hr (by rfl) (pa_cons (pv 0) (pa_cons (pe_fn C_roots hr (by rfl) (pa_cons (pv 0) (pa_cons (pv 1) pa_nil))) pa_nil))))
      (pss_cons (ps_set (i := 3) sc_groups.nd rfl (Or.inl rfl) pe_dnewK)
      (pss_cons (ps_for PassesOwn.never rfl (pi_tup (pv 0)) (pg_tup rfl (pgs_cons (pg_name (i := 4) sc_groups.nd rfl (Or.inl rfl)) (pgs_cons (pg_name (i := 5) sc_groups.nd rfl (Or.inl rfl)) pgs_nil)))
        (pss_one (ps_if (pt_cmpR op_gt (pe_dget hu (pv 2) (pv 4) (fun _ _ => rfl)) pe_int (nomark _))
          (pss_one (ps_expr (pe_bm PySem.F.plainAttrs_list PySem.F.slot_list_append PySem.F.type_list_append mt_append (pe_dset2 (pv 3) (pe_dget hu (pv 2) (pv 4) (fun _ _ => rfl)) (pe_lst pa_nil) ⟨rfl, rfl, rfl, rfl⟩) (pa_cons (pv 4) pa_nil)))) pss_nil)))
      (pss_one (ps_ret (pe_callTy call_tuple_of (by rfl) T.n_tuple boot_tuple (pa_cons (pe_comp (M := ["tint", "names", "parts"]) (ρ := [none, none, some 0]) (defScope s_groups) ["parts", "beginnings", "found", "members", "part", "rows"] ⟨rfl, by decide +kernel, by decide +kernel, by decide +kernel, rfl, by decide +kernel, by decide +kernel⟩ (pi_items (pv 3)) (fun _ _ _ _ _ _ => (pg_tupK (K := K) (n := 2) rfl rfl (pgs_cons (pg_name (i := 0) (show (["tint", "names", "parts"] : List Str).Nodup by decide +kernel) rfl (Or.inl rfl)) (pgs_cons (pg_name (i := 1) (show (["tint", "names", "parts"] : List Str).Nodup by decide +kernel) rfl (Or.inl rfl)) pgs_nil)))) (fun _ _ _ _ _ _ => pts_nil) (fun _ _ _ _ _ _ => (pe_tup (pa_cons (pv 0) (pa_cons (pe_callTy (call_tuple_ofK (K := K) rfl) (by rfl) T.n_tuple boot_tuple (pa_cons (pv 1) pa_nil)) (pa_cons (pe_fn C_size_of hr (by rfl) (pa_cons (pv 2) (pa_cons (pv 1) pa_nil))) pa_nil)))))) pa_nil))))))), ?_⟩
    refine ⟨_, rfl, _, rfl, _, rfl, a, b, ps, bs, rfl, hpf, hfit, hb, hbl, fun rt H1 s1 hrt => ⟨a, rt, ps, rootsOf ps bs, rfl, s1.partsF hpf, hfit, hcl, hrt, roots_in hbs, fun d kv0 H2 s2 hd hval => ?_⟩⟩
    have hval' : ∀ n ∈ ps.map (·.1), valV kv0 (Sum.inr n) = some (.int (tintF ps (rootsOf ps bs) n)) := hval
    generalize tintF ps (rootsOf ps bs) = f at q hval'
    have s12 := s1.trans s2
    intro M gM
    have u3 : Same H2 (upd H2 M (.dK [])) := (Same.refl H2).new gM
    obtain ⟨oo, ws, ha, ho, hps⟩ := id (s12.partsF hpf)
    have sqa : ∀ {H' : Hp}, Same H2 H' → SqT K H' a ws := fun s2 => .inl (.inr ⟨oo, s2 _ _ ha⟩)
    have hwl : ws.length = ps.length := Paired.length hps
    have hMd : M ≠ d := fun z => by rw [z, hd] at gM; cases gM
    refine ⟨_, rfl, a, rfl, ⟨_, sqa u3⟩, for_tup (K := K) (a := a) (xs := ws) (fun i σ H3 => ∃ (kvs : List (Key × V)) (v4 v5 : Option V), σ = [some (.ref a), some (.ref b), some (.ref d), some (.ref M), v4, v5] ∧ Same H2 H3 ∧ H3 M = some (.dK kvs) ∧ kvs.length ≤ i ∧ Mem f ((ps.map (·.1)).take i) H3 kvs ∧ ∀ kv ∈ kvs, ∃ p, kv.2 = .ref p ∧ H2 p = none)
      ⟨[], none, none, rfl, u3, upd_same, Nat.le_refl _, ⟨.nil, by simp, by simp⟩, by simp⟩ (fun i σ H3 _ ⟨_, _, _, _, s3, _⟩ => sqa s3) ?_ ?_⟩
    · rintro i y σ H3 hy ⟨kvs, v4, v5, rfl, s3, hM3, hkl, hmem, hfr⟩
      obtain ⟨pt, hpt, t, u, zs, ey, ht, hu', _⟩ := Paired.get? hps hy
      subst ey
      have hi := (List.getElem?_eq_some_iff.mp hpt).1
      have hnm : (ps.map (·.1))[i]? = some pt.1 := by rw [List.getElem?_map, hpt]; rfl
      have hmn : pt.1 ∈ ps.map (·.1) := List.mem_of_getElem? hnm
      have hdv := hval' _ hmn
      refine ⟨t, _, rfl, SqT.of (s3 _ _ ht), rfl, _, _, rfl, _, _, rfl, rfl, ?_⟩
      refine ⟨_, rfl, _, rfl, d, _, rfl, (hdv ▸ DGet.k (k := Sum.inr pt.1) (s3 _ _ hd)), _, _, rfl, rfl, _, rfl, ite2 (fun hc => ?_) (fun hc => ?_)⟩
      · have h0 : 0 < f pt.1 := of_decide_eq_true hc
        refine ⟨_, rfl, M, rfl, .inl ⟨_, Rd.of hM3⟩, _, rfl, _, rfl, d, _, rfl, (hdv ▸ DGet.k (k := Sum.inr pt.1) (s3 _ _ hd)), (by show 0 ≤ sizeLine; decide), fun z gz => ?_⟩
        have hM4 := upd_keep (o := .lst []) hM3 gz
        have u4 : Same H3 (upd H3 z (.lst [])) := (Same.refl H3).new gz
        have hz4 : upd H3 z (.lst []) z = some (.lst []) := upd_same
        have s4 := s3.trans u4
        have gz2 : H2 z = none := s3.free gz
        have hzM : z ≠ M := fun e => by rw [e, hM3] at gz; cases gz
        have mem4 := hmem.keep (H' := upd H3 z (.lst [])) fun b xs e => u4 _ _ e
        generalize upd H3 z (.lst []) = H4 at hM4 u4 hz4 s4 mem4 ⊢
        refine ⟨kvs, Sum.inl (f pt.1), hM4, rfl, small1000 (by omega), fun v hv => ?_, fun hv => ?_⟩
        · have hin : f pt.1 ∈ dd f ((ps.map (·.1)).take i) := by
            by_cases z : f pt.1 ∈ dd f ((ps.map (·.1)).take i)
            · exact z
            · rw [(mem_find hmem.at').2 z] at hv; cases hv
          obtain ⟨p, hp1, hp2, hp3⟩ := (mem_find mem4.at').1 hin
          rw [hp1] at hv
          cases hv
          obtain ⟨p', e', gp⟩ := hfr _ hp2
          cases e'
          have hgl : (gn f ((ps.map (·.1)).take i) (f pt.1)).length ≤ 24 := by
            have h1 := List.length_filter_le (fun m => decide (f m = f pt.1)) ((ps.map (·.1)).take i)
            rw [List.length_take, List.length_map] at h1
            unfold gn
            omega
          have hpM : p ≠ M := fun e => by rw [e, hM4] at hp3; cases hp3
          refine ⟨.inl ⟨rfl, _, SqL.of hp3⟩, _, rfl, p, _, _, rfl, rfl, hp3, small1000 (by rw [List.length_map]; omega), ?_⟩
          refine ⟨kvs, _, _, rfl, s4.put gp, by rw [upd_ne hpM.symm]; exact hM4, by omega, ?_, hfr⟩
          rw [take_succ_get hnm]
          exact mem4.add h0 hin hp2
        · have hin : f pt.1 ∉ dd f ((ps.map (·.1)).take i) := fun z => by
            obtain ⟨p, hp1, _⟩ := (mem_find hmem.at').1 z
            rw [hp1] at hv; cases hv
          have hz5 : upd H4 M (.dK (putK kvs (Sum.inl (f pt.1)) (.ref z))) z = some (.lst []) := by rw [upd_ne hzM]; exact hz4
          rw [putK_new _ hv] at hz5 ⊢
          refine ⟨.inl ⟨rfl, _, SqL.of hz5⟩, _, rfl, z, _, _, rfl, rfl, hz5, small1000 (by show 0 ≤ 1000; decide), ?_⟩
          refine ⟨kvs ++ [(Sum.inl (f pt.1), .ref z)], _, _, rfl, (s4.put gM).put gz2, by rw [upd_ne hzM.symm, upd_same], by rw [List.length_append]; show kvs.length + 1 ≤ _; omega, ?_, fun kv hkv => ?_⟩
          · rw [take_succ_get hnm]
            refine hmem.new h0 hin gz (fun b xs e => ?_) upd_same
            rw [upd_ne (fun y => by rw [y, gz] at e; cases e), upd_ne (fun y => by rw [y, hM3] at e; cases e)]
            exact u4 _ _ e
          · rcases List.mem_append.mp hkv with y | y
            · exact hfr kv y
            · rw [List.mem_singleton.mp y]; exact ⟨z, rfl, gz2⟩
      · have h0 : ¬ 0 < f pt.1 := fun z => hc (decide_eq_true z)
        refine ⟨kvs, _, _, rfl, s3, hM3, by omega, ?_, hfr⟩
        rw [take_succ_get hnm]
        exact hmem.skip h0
    · rintro σ H3 ⟨kvs, v4, v5, rfl, s3, hM3, hkl, hmem, hfr⟩
      rw [hwl] at hkl hmem
      rw [List.take_of_length_le (by rw [List.length_map]; exact Nat.le_refl _)] at hmem
      refine ⟨_, rfl, M, kvs, rfl, hM3, fun ob D gD => ?_⟩
      have s4 : Same H2 (upd H3 M (.frz ob (.dK kvs))) := s3.put gM
      have hM4 : upd H3 M (.frz ob (.dK kvs)) M = some (.frz ob (.dK kvs)) := upd_same
      have mem4 : Mem f (ps.map (·.1)) (upd H3 M (.frz ob (.dK kvs))) kvs := hmem.keep fun b xs e => by rw [upd_ne (fun y => by rw [y, hM3] at e; cases e)]; exact e
      generalize upd H3 M (.frz ob (.dK kvs)) = H4 at s4 hM4 mem4 gD ⊢
      refine comp_items (d := M) (o := ob) (u := .dK kvs) (kvs := kvs) (fun i σ H5 => ∃ (v0 v1 : Option V) (gs : List V), σ = [v0, v1, some (.ref a)] ∧ Same H4 H5 ∧ H5 D = some (.lst gs) ∧ Paired (GrAt ps f H5) gs ((dd f (ps.map (·.1))).take i)) ⟨_, _, [], rfl, (Same.refl H4).new gD, upd_same, .nil⟩ (fun i σ H5 ⟨_, _, _, _, s5, _⟩ => s5 _ _ hM4) ?_ ?_
      · rintro i kv p0 σ H5 hkv ⟨v0, v1, gs, rfl, s5, hD5, hgs⟩ gp0
        obtain ⟨t, ht, p, e1, e2, hp⟩ := Paired.get? mem4.at' hkv
        obtain ⟨kk, kv2⟩ := kv
        cases e1
        cases e2
        have hi := (List.getElem?_eq_some_iff.mp hkv).1
        have hgl : gs.length ≤ 24 := by
          have h1 := Paired.length hgs
          rw [List.length_take] at h1
          omega
        have s6 : Same H4 (upd H5 p0 (.tup [.int t, .ref p])) := s5.new gp0
        have hp0 : upd H5 p0 (.tup [.int t, .ref p]) p0 = some (.tup [.int t, .ref p]) := upd_same
        have hD6 := upd_keep (o := .tup [.int t, .ref p]) hD5 gp0
        have hgs6 : Paired (GrAt ps f (upd H5 p0 (.tup [.int t, .ref p]))) gs ((dd f (ps.map (·.1))).take i) := Paired.mapP hgs fun _ _ ⟨g, tn, h1, h2, h3⟩ => ⟨g, tn, h1, upd_keep h2 gp0, upd_keep h3 gp0⟩
        rw [show (HO.tup [kV ((Sum.inl t, V.ref p) : Key × V).1, ((Sum.inl t, V.ref p) : Key × V).2]) = .tup [.int t, .ref p] from rfl]
        generalize upd H5 p0 (.tup [.int t, .ref p]) = H6 at s6 hp0 hD6 hgs6 ⊢
        refine ⟨p0, _, rfl, SqT.of hp0, rfl, _, _, rfl, _, _, rfl, rfl, ?_⟩
        refine ⟨_, rfl, _, rfl, p, _, rfl, .inl ⟨SqL.of (s6 _ _ hp), fun tn gtn => ?_⟩⟩
        have u7 : Same H6 (upd H6 tn (.tup ((gn f (ps.map (·.1)) t).map V.str))) := (Same.refl H6).new gtn
        have htn7 : upd H6 tn (.tup ((gn f (ps.map (·.1)) t).map V.str)) tn = some (.tup ((gn f (ps.map (·.1)) t).map V.str)) := upd_same
        generalize upd H6 tn (.tup ((gn f (ps.map (·.1)) t).map V.str)) = H7 at u7 htn7 ⊢
        have s47 := s6.trans u7
        refine ⟨_, rfl, _, rfl, a, p, ps, gn f (ps.map (·.1)) t, rfl, ((s12.trans s4).trans s47).partsF hpf, hfit, s47 _ _ hp, fun H8 s8 => ?_⟩
        refine ⟨(by show 3 ≤ sizeLine; decide), fun g gg => ?_⟩
        have u68 := u7.trans s8
        have hD9 := upd_keep (o := .tup [.int t, .ref tn, .int (szN ps (gn f (ps.map (·.1)) t))]) (u68 _ _ hD6) gg
        have tt : Tups H6 (upd (upd H8 g (.tup [.int t, .ref tn, .int (szN ps (gn f (ps.map (·.1)) t))])) D (.lst (gs ++ [.ref g]))) := (u68.new gg).tups.trans (Tups.lst hD9)
        refine ⟨gs, hD9, small1000 (by omega), _, _, gs ++ [.ref g], rfl, ((s47.trans s8).new gg).put gD, upd_same, ?_⟩
        rw [take_succ_get ht]
        refine Paired.snoc (Paired.mapP hgs6 fun _ _ ⟨g', tn', h1, h2, h3⟩ => ⟨g', tn', h1, tt _ _ h2, tt _ _ h3⟩) ⟨g, tn, rfl, Tups.lst hD9 _ _ upd_same, Tups.lst hD9 _ _ (upd_keep (s8 _ _ htn7) gg)⟩
      · rintro σ H5 ⟨v0, v1, gs, rfl, s5, hD5, hgs⟩
        rw [show kvs.length = (dd f (ps.map (·.1))).length from Paired.length mem4.at', List.take_of_length_le (Nat.le_refl _)] at hgs
        refine ⟨D, gs, rfl, .inl ⟨SqL.of hD5, fun g gg => ?_⟩⟩
        exact q g gs _ (((s12.trans s4).trans s5).new gg) upd_same (Paired.mapP hgs fun _ _ ⟨g', tn, h1, h2, h3⟩ => ⟨g', tn, h1, upd_keep h2 gg, upd_keep h3 gg⟩)
def spBits : Sp := fun vs H Q _ => ∃ (D : Addr) (us : List V) (Ls : List (List Str)) (n : Str), vs = [.ref D, .str n] ∧ H D = some (.lst us) ∧ Paired (LsD D H) us Ls ∧ Ls.length ≤ 60 ∧ Q (.int (bitsI (Ls.map fun L => decide (n ∈ L)))) H
theorem ok_bits (T : Txt K mg) : L2.Cl P w K mg base 1 "_law_bits" ["_law_come_here", "_law_name"] spBits := by
  refine Cl.of T.d_law_bits sc_law_bits (fun vs H Q E h => ?_) (fun _ _ _ _ _ _ us hl => match us, hl with | [_, _], _ => rfl) (fun fa cdv A outer s H vs Q E hr h => ?_)
  · obtain ⟨D, us, Ls, n, rfl, _⟩ := h
    rfl
  · obtain ⟨D, us, Ls, n, rfl, hD, hLs, hl60, q⟩ := h
    have hul : us.length = Ls.length := Paired.length hLs
    refine ⟨_, (pss_cons (ps_set (i := 2) sc_law_bits.nd rfl (Or.inl rfl) pe_int)
      (pss_cons (ps_set (i := 3) sc_law_bits.nd rfl (Or.inl rfl) pe_int)
      (pss_cons (ps_for PassesOwn.never rfl (pi_list (pv 0)) (pg_name (i := 4) sc_law_bits.nd rfl (Or.inl rfl))
        (pss_cons (ps_set (i := 2) sc_law_bits.nd rfl (Or.inl rfl) (pe_op op_add (pv 2) (pe_op op_mul (pv 3) (pe_callTy call_int1 (by rfl) T.n_int boot_int (pa_cons (pe_cmpR op_in_seq (pv 1) (pv 4) (by with_unfolding_all rfl)) pa_nil)))))
        (pss_one (ps_set (i := 3) sc_law_bits.nd rfl (Or.inl rfl) (pe_op op_mul pe_int (pv 3))))))
      (pss_one (ps_ret (pv 2)))))), ?_⟩
    refine ⟨_, rfl, D, rfl, ⟨_, SqL.of hD⟩, for_list (K := K) (a := D) (xs := us) (fun i σ H2 => ∃ v4 : Option V, σ = [some (.ref D), some (.str n), some (.int (bitsI ((Ls.take i).map fun L => decide (n ∈ L)))), some (.int (2 ^ i)), v4] ∧ H2 = H) ⟨_, rfl, rfl⟩ (fun i σ H2 _ ⟨_, _, e⟩ => by subst e; exact SqL.of hD) ?_ ?_⟩
    · rintro i y σ H2 hy ⟨v4, rfl, e⟩
      subst e
      obtain ⟨Lc, hLc, lb, ev, _, hlb⟩ := Paired.get? hLs hy
      subst ev
      have hi := (List.getElem?_eq_some_iff.mp hLc).1
      have hp : (0 : Int) < 2 ^ i := Int.pow_pos (by decide)
      have hp2 : (2 : Int) ^ i < 2 ^ 64 := by
        have h1 : (2 : Nat) ^ i < 2 ^ 64 := Nat.pow_lt_pow_right (by decide) (by omega)
        exact_mod_cast h1
      have cm : CMul (2 ^ i) (if decide (n ∈ Lc) = true then 1 else 0) := .inl ⟨by omega, hp2⟩
      refine ⟨_, rfl, _, rfl, _, rfl, _, rfl, lb, _, rfl, .inl (SqL.of hlb), rfl, strs_flat _, .inr ⟨_, rfl, ?_⟩⟩
      rw [if_neg Bool.false_ne_true, inV_strs]
      refine ⟨_, _, rfl, rfl, cm, _, _, rfl, rfl, ?_⟩
      refine ⟨_, rfl, _, _, rfl, rfl, .inl ⟨by decide, by decide⟩, some (.ref lb), ?_, rfl⟩
      have e1 : (Ls.take (i + 1)).map (fun L => decide (n ∈ L)) = (Ls.take i).map (fun L => decide (n ∈ L)) ++ [decide (n ∈ Lc)] := by rw [take_succ_get hLc, List.map_append]; rfl
      have e2 : ((Ls.take i).map fun L => decide (n ∈ L)).length = i := by rw [List.length_map, List.length_take]; omega
      rw [e1, bitsI_snoc, e2]
      have e3 : (2 : Int) ^ i * (if decide (n ∈ Lc) = true then 1 else 0) = if decide (n ∈ Lc) = true then 2 ^ i else 0 := by
        split
        · rw [Int.mul_one]
        · rw [Int.mul_zero]
      have e4 : (2 : Int) * 2 ^ i = 2 ^ (i + 1) := by rw [Int.pow_succ, Int.mul_comm]
      show [_, _, some (V.int (_ + (2 : Int) ^ i * (if decide (n ∈ Lc) = true then 1 else 0))), some (V.int ((2 : Int) * 2 ^ i)), _] = _
      rw [e3, e4]
    · rintro σ H2 ⟨v4, rfl, e⟩
      subst e
      rw [hul, List.take_of_length_le (Nat.le_refl _)]
      exact ⟨_, rfl, q⟩
def spWhole : Sp := fun vs H Q _ => ∃ n : Int, vs = [.int n] ∧ Q (.bl true) H
theorem ok_whole (T : Txt K mg) : L2.Cl P w K mg base 1 "_law_whole" ["_law_found"] spWhole := by
  refine Cl.of T.d_law_whole sc_law_whole (fun vs H Q E h => ?_) (fun _ _ _ _ _ _ us hl => match us, hl with | [_], _ => rfl) (fun fa cdv A outer s H vs Q E hr h => ?_)
  · obtain ⟨n, rfl, _⟩ := h
    rfl
  · obtain ⟨n, rfl, q⟩ := h
    refine ⟨_, (pss_one (ps_ret (pe_and (pe_callB call_isinst (by rfl) T.n_isinstance PyProof.Rows.boot_isinstance (pa_cons (pv 0) (pa_cons (pe_bltn (v := .ty "int") (by rfl) T.n_int boot_int rfl) pa_nil))) (pe_one (pe_not (pe_callB call_isinst (by rfl) T.n_isinstance PyProof.Rows.boot_isinstance (pa_cons (pv 0) (pa_cons (pe_bltn (v := .ty "bool") (by rfl) T.n_bool boot_bool rfl) pa_nil)))))))), ?_⟩
    exact ⟨_, rfl, _, _, _, _, rfl, .int _, kit_same _ _, _, rfl, iteT ⟨_, rfl, _, _, _, _, rfl, .int _, kit_int_bool _, _, rfl, q⟩⟩
def spGrp : Sp := fun vs H Q _ => ∃ (g tn : Addr) (t z : Int) (names : List Str), vs = [.ref g] ∧ H g = some (.tup [.int t, .ref tn, .int z]) ∧ H tn = some (.tup (names.map V.str)) ∧ names ≠ [] ∧ names.length ≤ 24 ∧ ∀ H', Same H H' → Q (.bl true) H'
theorem ok_grp (T : Txt K mg) : L2.Cl P w K mg base 2 "_law_group" ["_law_found"] spGrp := by
  have C_law_whole := ok_whole (P := P) (w := w) (base := base) T
  refine Cl.of T.d_law_group sc_law_group (fun vs H Q E h => ?_) (fun _ _ _ _ _ _ us hl => match us, hl with | [_], _ => rfl) (fun fa cdv A outer s H vs Q E hr h => ?_)
  · obtain ⟨g, tn, t, z, names, rfl, _⟩ := h
    rfl
  · obtain ⟨g, tn, t, z, names, rfl, hg, htn, hne, h24, q⟩ := h
    have hu0 := Nat.lt_of_succ_lt (hu_of hr)
    refine ⟨_, (pss_cons (ps_if (PW.pt (pw_or (pt_not (pt_val (pe_callB call_isinst (by rfl) T.n_isinstance PyProof.Rows.boot_isinstance (pa_cons (pv 0) (pa_cons (pe_bltn (v := .ty "tuple") (by rfl) T.n_tuple boot_tuple rfl) pa_nil))))) (pw_or (pt_cmpR op_ne (pe_callB call_len_seq (by rfl) T.n_len PySem.boot_len (pa_cons (pv 0) pa_nil)) pe_int (nomark _)) (pw_or (pt_not (pt_val (pe_fn C_law_whole hr (by rfl) (pa_cons (pe_ix ix_tup (pv 0) pe_int (fun _ _ => rfl)) pa_nil)))) (pw_or1 (pt_not (pt_val (pe_fn C_law_whole hr (by rfl) (pa_cons (pe_ix ix_tup (pv 0) pe_int (fun _ _ => rfl)) pa_nil)))))))))
        (pss_one (ps_ret pe_bl)) pss_nil)
      (pss_cons (ps_if (PW.pt (pw_or (pt_not (pt_val (pe_callB call_isinst (by rfl) T.n_isinstance PyProof.Rows.boot_isinstance (pa_cons (pe_ix ix_tup (pv 0) pe_int (fun _ _ => rfl)) (pa_cons (pe_bltn (v := .ty "tuple") (by rfl) T.n_tuple boot_tuple rfl) pa_nil))))) (pw_or1 (pt_cmpR (op_eqT_nil hu0) (pe_ix ix_tup (pv 0) pe_int (fun _ _ => rfl)) (pe_tup pa_nil) (nomark _)))))
        (pss_one (ps_ret pe_bl)) pss_nil)
      (pss_one (ps_ret (pe_cmpR op_eq (pe_callB call_len_seq (by rfl) T.n_len PySem.boot_len (pa_cons (pe_comp (M := ["_law_name"]) (ρ := [none]) (defScope s_law_group) ["_law_found"] ⟨rfl, by decide +kernel, by decide +kernel, by decide +kernel, rfl, by decide +kernel, by decide +kernel⟩ (pi_tup (pe_ix ix_tup (pv 0) pe_int (fun _ _ => rfl))) (fun _ _ _ _ _ _ => (pg_name (i := 0) (show (["_law_name"] : List Str).Nodup by decide +kernel) rfl (Or.inl rfl))) (fun _ _ _ _ _ _ => (pts_one (pt_val (pe_callB (call_isinstK (K := K) rfl) (by rfl) T.n_isinstance PyProof.Rows.boot_isinstance (pa_cons (pv 0) (pa_cons (pe_bltn (v := .ty "str") (by rfl) T.n_str boot_str rfl) pa_nil)))))) (fun _ _ _ _ _ _ => (pv 0))) pa_nil)) (pe_callB call_len_seq (by rfl) T.n_len PySem.boot_len (pa_cons (pe_ix ix_tup (pv 0) pe_int (fun _ _ => rfl)) pa_nil)) (nomark _)))))), ?_⟩
    refine ⟨_, rfl, _, _, _, _, rfl, .tup hg, kit_same _ _, _, rfl, iteF ?_⟩
    refine ⟨_, rfl, g, _, rfl, .inr (SqT.of hg), rfl, _, rfl, iteF ?_⟩
    refine ⟨_, rfl, g, _, _, _, rfl, rfl, SqT.of hg, atI_nat (j := 0) rfl, t, rfl, _, rfl, iteF ?_⟩
    refine ⟨_, rfl, g, _, _, _, rfl, rfl, SqT.of hg, atI_nat (j := 2) rfl, z, rfl, _, rfl, iteF ?_⟩
    refine ⟨_, rfl, g, _, _, _, rfl, rfl, SqT.of hg, atI_nat (j := 1) rfl, _, _, _, _, rfl, .tup htn, kit_same _ _, _, rfl, iteF ?_⟩
    refine ⟨_, rfl, g, _, _, _, rfl, rfl, SqT.of hg, atI_nat (j := 1) rfl, (by show 0 ≤ sizeLine; decide), fun e ge => ?_⟩
    have u1 : Same H (upd H e (.tup [])) := (Same.refl H).new ge
    have htn1 := u1 _ _ htn
    have hg1 := u1 _ _ hg
    refine ⟨tn, e, _, rfl, rfl, SqT.of htn1, SqT.of upd_same, _, rfl, ?_⟩
    rw [show (names.map V.str).isEmpty = false by cases names with | nil => exact absurd rfl hne | cons a r => rfl]
    refine iteF ?_
    generalize upd H e (.tup []) = H1 at u1 htn1 hg1 ⊢
    refine ⟨_, rfl, g, _, _, _, rfl, rfl, SqT.of hg1, atI_nat (j := 1) rfl, tn, rfl, ⟨_, SqT.of htn1⟩, fun D gD => ?_⟩
    refine comp_tup (K := K) (a := tn) (xs := names.map V.str) (fun i σ H2 => ∃ v0 : Option V, σ = [v0] ∧ Same H1 H2 ∧ H2 D = some (.lst ((names.take i).map V.str))) ⟨_, rfl, (Same.refl H1).new gD, upd_same⟩ (fun i σ H2 ⟨_, _, s2, _⟩ => SqT.of (s2 _ _ htn1)) ?_ ?_
    · rintro i x σ H2 hx ⟨v0, rfl, s2, hD⟩
      rw [List.getElem?_map] at hx
      obtain ⟨y, hy, rfl⟩ := Option.map_eq_some_iff.mp hx
      refine ⟨_, rfl, _, _, _, _, rfl, .str _, kit_same _ _, _, rfl, iteT ⟨_, rfl, _, hD, small1000 (by rw [List.length_map, List.length_take]; omega), _, rfl, s2.put gD, ?_⟩⟩
      rw [upd_same, take_succ_get hy, List.map_append]
      rfl
    · rintro σ H2 ⟨v0, rfl, s2, hD⟩
      rw [List.length_map, List.take_of_length_le (Nat.le_refl _)] at hD
      refine ⟨D, _, rfl, .inl (SqL.of hD), _, rfl, g, _, _, _, rfl, rfl, SqT.of (s2 _ _ hg1), atI_nat (j := 1) rfl, tn, _, rfl, .inr (SqT.of (s2 _ _ htn1)), rfl, ?_⟩
      have e9 : decide (V.int (((names.map V.str).length : Nat) : Int) = V.int (((names.map V.str).length : Nat) : Int)) = true := decide_eq_true rfl
      show Q (.bl (decide (V.int (((names.map V.str).length : Nat) : Int) = V.int (((names.map V.str).length : Nat) : Int)))) H2
      rw [e9]
      exact q H2 (u1.trans s2)
def spLaw (K : PySem.W.Frag) : Sp := fun vs H Q _ => ∃ (a : Addr) (ns : List Int), vs = [.ref a] ∧ SqL K H a (ns.map V.int) ∧ ns.length ≤ 63 ∧ ∀ H', Q (.bl true) H'
def One24 (y : V) : Prop := ∃ n : Int, y = .int n ∧ 1 ≤ n ∧ n ≤ 24
theorem inV_ints (x : Int) : ∀ l : List Int, inV (.int x) (l.map V.int) = decide (x ∈ l)
  | [] => by simp [inV]
  | a :: r => by
    have ih := inV_ints x r
    unfold inV at ih ⊢
    rw [List.map_cons, List.any_cons, ih]
    by_cases e : a = x
    · subst e; simp [eqV]
    · have h2 : ¬ x = a := fun z => e z.symm
      simp [eqV, e, h2]
theorem ints_flat : ∀ l : List Int, (l.map V.int).all flatV = true
  | [] => rfl
  | a :: r => by rw [List.map_cons, List.all_cons, ints_flat r]; rfl
theorem bits_rc {ps : List Pt} {n : Str} {rs : List Str} {Ls : List (List Str)} (h : Paired (fun r L => ∀ m, m ∈ L ↔ Rc (k1 ps) r m) rs Ls) : bitsI (Ls.map fun L => decide (n ∈ L)) = tintF ps rs n := by
  unfold tintF
  congr 1
  induction h with
  | nil => rfl
  | cons hr _ ih =>
    rw [List.map_cons, List.map_cons, ih]
    congr 1
    rw [Bool.eq_iff_iff, decide_eq_true_iff, rcB_iff]
    exact hr n
theorem strs_d {K : PySem.W.Frag} {H : Hp} : ∀ l : List Str, Paired (EqD K H 0) (l.map V.str) (l.map V.str)
  | [] => .nil
  | a :: r => .cons ⟨rfl, rfl⟩ (strs_d r)
def DuAt (f : Str → Int) (nms : List Str) (H : Hp) (v : V) (t : Int) : Prop := ∃ p tn, v = .ref p ∧ H p = some (.tup [.int t, .ref tn]) ∧ H tn = some (.tup ((gn f nms t).map V.str))
theorem comp_zipL {K : PySem.W.Frag} {a b : Addr} {xs ys : List V} {g : TG} {tt : TT} {te : TE} {Q : Hp → Prop} {σ : L2.St} {H : Hp} {D : Addr} (hlen : xs.length = ys.length) (Pv : Nat → L2.St → Hp → Prop) (h0 : Pv 0 σ (upd H D (.lst [])))
    (hl : ∀ i σ2 H2, Pv i σ2 H2 → SqL K H2 a xs ∧ SqL K H2 b ys)
    (hs : ∀ i x y p σ2 H2, xs[i]? = some x → ys[i]? = some y → Pv i σ2 H2 → H2 p = none → g (.ref p) σ2 (upd H2 p (.tup [x, y])) fun σ4 H4 => tt σ4 H4 fun b H5 =>
      if b = true then te σ4 H5 fun y H6 => ∃ ys, H6 D = some (.lst ys) ∧ ys.length < sizeLine ∧ Pv (i + 1) σ4 (upd H6 D (.lst (ys ++ [y]))) else Pv (i + 1) σ4 H5)
    (hd : ∀ σ2 H2, Pv xs.length σ2 H2 → Q H2) :
    ∃ W : Nat → Nat → L2.St → Hp → Prop, (∃ m, W 0 m σ (upd H D (.lst []))) ∧ ∀ i m σ2 H2, W i m σ2 H2 →
      ((ItZl K a b).stop i H2 ∧ Q H2) ∨ ((ItZl K a b).go i H2 ∧ ∃ N : L2.St → Hp → Prop, (∀ σ' H', N σ' H' → ∃ m', m' < m ∧ W (i + 1) m' σ' H') ∧ ∀ x H3, (ItZl K a b).yld i H2 x H3 → g x σ2 H3 fun σ4 H4 => tt σ4 H4 fun b H5 =>
        if b = true then te σ4 H5 fun y H6 => ∃ ys, H6 D = some (.lst ys) ∧ ys.length < sizeLine ∧ N σ4 (upd H6 D (.lst (ys ++ [y]))) else N σ4 H5) := by
  refine comp_by xs.length Pv h0 (fun i σ2 H2 hi p => ?_) fun σ2 H2 p => ⟨⟨xs, ys, (hl _ _ _ p).1, (hl _ _ _ p).2, rfl, hlen.symm⟩, hd _ _ p⟩
  have e1 := List.getElem?_eq_getElem hi
  have e2 := List.getElem?_eq_getElem (show i < ys.length by omega)
  refine ⟨⟨xs, ys, _, _, (hl _ _ _ p).1, (hl _ _ _ p).2, e1, e2⟩, fun x H3 hy => ?_⟩
  obtain ⟨q, u, v, h1, h2, hq, rfl, rfl⟩ := hy
  exact hs i u v q σ2 H2 (h1 _ (hl _ _ _ p).1) (h2 _ (hl _ _ _ p).2) p hq
theorem law_fn {f : Addr} {fd : FuncData} (F : Fun K "law" "law" s_law f fd) (T : Txt K mg) : FnOk P w K mg base CX0 7 f fd ["_law_script"] (spLaw K) := by
  have C_law_cell_at := ok_cell (P := P) (w := w) (base := base) T
  have C_law_names := ok_names (P := P) (w := w) (base := base) T
  have C_law_parts := ok_parts (P := P) (w := w) (base := base) T
  have C_law_some := ok_some (P := P) (w := w) (base := base) T
  have C_law_come := ok_come (P := P) (w := w) (base := base) T
  have C_groups := ok_groups (P := P) (w := w) (base := base) T
  have C_law_bits := ok_bits (P := P) (w := w) (base := base) T
  have C_law_group := ok_grp (P := P) (w := w) (base := base) T
  refine F.ok sc_law (fun vs H Q E h => ?_) (fun cdv A outer s H vs Q E hr h => ?_)
  · obtain ⟨a, ns, rfl, _⟩ := h
    rfl
  · obtain ⟨a, ns, rfl, hS, hlen, q⟩ := h
    have hu := hu_of hr
    have hu2 := Nat.lt_of_le_of_lt (Nat.add_le_add_left (by decide : 1 + 1 ≤ 64) _) hr.units
    rw [← Nat.add_assoc] at hu2
    refine ⟨_, (pss_cons (ps_set (i := 1) sc_law.nd rfl (Or.inl rfl) (pe_op op_add pe_int (pe_op op_mod (pe_fn C_law_cell_at hr (by rfl) (pa_cons (pv 0) (pa_cons pe_int pa_nil))) pe_int)))
      (pss_cons (ps_if (pt_cmpR op_eq (pe_op op_mod (pe_op op_fdiv (pe_fn C_law_cell_at hr (by rfl) (pa_cons (pv 0) (pa_cons pe_int pa_nil))) pe_int) pe_int) pe_int (nomark _))
        (pss_one (ps_set (i := 1) sc_law.nd rfl (Or.inl rfl) (pe_op op_sub pe_int (pe_op op_mod (pe_op op_fdiv (pe_fn C_law_cell_at hr (by rfl) (pa_cons (pv 0) (pa_cons pe_int pa_nil))) pe_int) pe_int)))) pss_nil)
      (pss_cons (ps_set (i := 2) sc_law.nd rfl (Or.inl rfl) (pe_fn C_law_names hr (by rfl) (pa_cons (pe_fn C_law_cell_at hr (by rfl) (pa_cons (pv 0) (pa_cons pe_int pa_nil))) (pa_cons (pv 1) pa_nil))))
      (pss_cons (ps_set (i := 3) sc_law.nd rfl (Or.inr rfl) (pe_fn C_law_parts hr (by rfl) (pa_cons (pv 0) (pa_cons pe_int (pa_cons (pv 2) (pa_cons (pe_op op_mod (pe_fn C_law_cell_at hr (by rfl) (pa_cons (pv 0) (pa_cons pe_int pa_nil))) pe_int) pa_nil))))))
      (pss_cons (ps_set (i := 4) sc_law.nd rfl (Or.inr rfl) (pe_fn C_law_some hr (by rfl) (pa_cons (pv 2) (pa_cons (pe_fn C_law_cell_at hr (by rfl) (pa_cons (pv 0) (pa_cons pe_int pa_nil))) (pa_cons pe_int pa_nil)))))
      (pss_cons (ps_set (i := 5) sc_law.nd rfl (Or.inr rfl) (pe_lst pa_nil))
      (pss_cons (ps_for PassesOwn.never rfl (pi_tup (pv 3)) (pg_tup rfl (pgs_cons (pg_name (i := 6) sc_law.nd rfl (Or.inl rfl)) (pgs_cons (pg_name (i := 7) sc_law.nd rfl (Or.inl rfl)) pgs_nil)))
        (pss_one (ps_expr (pe_bm PySem.F.plainAttrs_list PySem.F.slot_list_extend PySem.F.type_list_extend mt_extend (pv 5) (pa_cons (pe_comp (M := ["_law_row_here"]) (ρ := [none]) (defScope s_law) ["_law_script", "_law_many", "_law_names_here", "_law_parts_here", "_law_begun", "_law_asked", "_law_name", "_law_rows", "_law_found", "_law_come_here", "_law_shades", "_law_seen", "_law_due", "_law_bits_here", "_law_rows_by", "_law_group_here", "_law_pair", "_law_size"] ⟨rfl, by decide +kernel, by decide +kernel, by decide +kernel, rfl, by decide +kernel, by decide +kernel⟩ (pi_tup (pv 7)) (fun _ _ _ _ _ _ => (pg_name (i := 0) (show (["_law_row_here"] : List Str).Nodup by decide +kernel) rfl (Or.inl rfl))) (fun _ _ _ _ _ _ => (pts_one (pt_cmpR op_eq (pe_ix (ix_tupK (K := K) rfl) (pv 0) pe_int (fun _ _ => rfl)) pe_str (nomark _)))) (fun _ _ _ _ _ _ => (pe_ix (ix_tupK (K := K) rfl) (pv 0) pe_int (fun _ _ => rfl)))) pa_nil)))))
      (pss_cons (ps_set (i := 8) sc_law.nd rfl (Or.inl rfl) (pe_fn C_groups hr (by rfl) (pa_cons (pv 3) (pa_cons (pv 4) pa_nil))))
      (pss_cons (ps_set (i := 4) sc_law.nd rfl (Or.inr rfl) (pe_op op_catA (pv 4) (pe_callTy call_tuple_of (by rfl) T.n_tuple boot_tuple (pa_cons (pe_comp (M := ["_law_name", "_law_asked", "_law_begun"]) (ρ := [none, some 5, some 4]) (defScope s_law) ["_law_script", "_law_many", "_law_names_here", "_law_parts_here", "_law_begun", "_law_asked", "_law_name", "_law_rows", "_law_found", "_law_come_here", "_law_shades", "_law_seen", "_law_due", "_law_bits_here", "_law_rows_by", "_law_group_here", "_law_pair", "_law_size"] ⟨rfl, by decide +kernel, by decide +kernel, by decide +kernel, rfl, by decide +kernel, by decide +kernel⟩ (pi_list (pv 2)) (fun _ _ _ _ _ _ => (pg_name (i := 0) (show (["_law_name", "_law_asked", "_law_begun"] : List Str).Nodup by decide +kernel) rfl (Or.inl rfl))) (fun _ _ _ _ _ _ => (pts_one (PW.pt (pw_and (pt_cmpR (op_in_seqK (K := K) rfl) (pv 0) (pv 1) (by with_unfolding_all rfl)) (pw_and1 (pt_cmpR (op_notin_seqK (K := K) rfl) (pv 0) (pv 2) (by with_unfolding_all rfl))))))) (fun _ _ _ _ _ _ => (pv 0))) pa_nil))))
      (pss_cons (ps_set (i := 9) sc_law.nd rfl (Or.inr rfl) (pe_comp (M := ["_law_root", "_law_parts_here"]) (ρ := [none, some 3]) (defScope s_law) ["_law_script", "_law_many", "_law_names_here", "_law_parts_here", "_law_begun", "_law_asked", "_law_name", "_law_rows", "_law_found", "_law_come_here", "_law_shades", "_law_seen", "_law_due", "_law_bits_here", "_law_rows_by", "_law_group_here", "_law_pair", "_law_size"] ⟨rfl, by decide +kernel, by decide +kernel, by decide +kernel, rfl, by decide +kernel, by decide +kernel⟩ (pi_tup (pv 4)) (fun _ _ _ _ _ _ => (pg_name (i := 0) (show (["_law_root", "_law_parts_here"] : List Str).Nodup by decide +kernel) rfl (Or.inl rfl))) (fun _ _ _ _ _ _ => pts_nil) (fun _ _ _ _ _ _ => (pe_fn C_law_come hr (by rfl) (pa_cons (pv 1) (pa_cons (pv 0) pa_nil))))))
      (pss_cons (ps_if (pt_not (pt_val (pe_callB call_isinst (by rfl) T.n_isinstance PyProof.Rows.boot_isinstance (pa_cons (pv 8) (pa_cons (pe_bltn (v := .ty "tuple") (by rfl) T.n_tuple boot_tuple rfl) pa_nil)))))
        (pss_one (ps_ret pe_bl)) pss_nil)
      (pss_cons (ps_setC (j := 10) (M := ["_law_name", "_law_come_here"]) (ρ := [none, some 9]) (defScope s_law) ["_law_script", "_law_many", "_law_names_here", "_law_parts_here", "_law_begun", "_law_asked", "_law_name", "_law_rows", "_law_found", "_law_come_here", "_law_shades", "_law_seen", "_law_due", "_law_bits_here", "_law_rows_by", "_law_group_here", "_law_pair", "_law_size"] ⟨rfl, by decide +kernel, by decide +kernel, by decide +kernel, rfl, by decide +kernel, by decide +kernel⟩ sc_law.nd rfl (Or.inl rfl) (pi_list (pv 2)) (fun _ _ _ _ _ _ => (pg_name (i := 0) (show (["_law_name", "_law_come_here"] : List Str).Nodup by decide +kernel) rfl (Or.inl rfl))) (fun _ _ _ _ _ _ => pts_nil) (fun _ _ _ _ _ _ => (pe_fn C_law_bits hr (by rfl) (pa_cons (pv 1) (pa_cons (pv 0) pa_nil)))))
      (pss_cons (ps_set (i := 11) sc_law.nd rfl (Or.inl rfl) (pe_lst pa_nil))
      (pss_cons (ps_set (i := 12) sc_law.nd rfl (Or.inl rfl) (pe_lst pa_nil))
      (pss_cons (ps_for PassesOwn.never rfl (pi_list (pv 10)) (pg_name (i := 13) sc_law.nd rfl (Or.inr rfl))
        (pss_one (ps_if (PW.pt (pw_and (pt_cmpR op_gt (pv 13) pe_int (nomark _)) (pw_and1 (pt_cmpR op_notIn_seq (pv 13) (pv 11) (by with_unfolding_all rfl)))))
          (pss_cons (ps_expr (pe_bm PySem.F.plainAttrs_list PySem.F.slot_list_append PySem.F.type_list_append mt_append (pv 11) (pa_cons (pv 13) pa_nil)))
          (pss_one (ps_expr (pe_bm PySem.F.plainAttrs_list PySem.F.slot_list_append PySem.F.type_list_append mt_append (pv 12) (pa_cons (pe_tup (pa_cons (pv 13) (pa_cons (pe_callTy call_tuple_of (by rfl) T.n_tuple boot_tuple (pa_cons (pe_comp (M := ["_law_name", "_law_other_here", "_law_bits_here"]) (ρ := [none, none, some 13]) (defScope s_law) ["_law_script", "_law_many", "_law_names_here", "_law_parts_here", "_law_begun", "_law_asked", "_law_name", "_law_rows", "_law_found", "_law_come_here", "_law_shades", "_law_seen", "_law_due", "_law_bits_here", "_law_rows_by", "_law_group_here", "_law_pair", "_law_size"] ⟨rfl, by decide +kernel, by decide +kernel, by decide +kernel, rfl, by decide +kernel, by decide +kernel⟩ (pi_zipL (by rfl) T.n_zip (pa_cons (pv 2) (pa_cons (pv 10) pa_nil))) (fun _ _ _ _ _ _ => (pg_tupK (K := K) (n := 2) rfl rfl (pgs_cons (pg_name (i := 0) (show (["_law_name", "_law_other_here", "_law_bits_here"] : List Str).Nodup by decide +kernel) rfl (Or.inl rfl)) (pgs_cons (pg_name (i := 1) (show (["_law_name", "_law_other_here", "_law_bits_here"] : List Str).Nodup by decide +kernel) rfl (Or.inl rfl)) pgs_nil)))) (fun _ _ _ _ _ _ => (pts_one (pt_cmpR op_eq (pv 1) (pv 2) (nomark _)))) (fun _ _ _ _ _ _ => (pv 0))) pa_nil)) pa_nil))) pa_nil))))) pss_nil)))
      (pss_cons (ps_if (pt_cmpR op_ne (pe_callB call_len_seq (by rfl) T.n_len PySem.boot_len (pa_cons (pv 8) pa_nil)) (pe_callB call_len_seq (by rfl) T.n_len PySem.boot_len (pa_cons (pv 12) pa_nil)) (nomark _))
        (pss_one (ps_ret pe_bl)) pss_nil)
      (pss_cons (ps_set (i := 14) sc_law.nd rfl (Or.inl rfl) (pe_callTy (call_dictT rfl) (by rfl) T.n_dict boot_dict (pa_cons (pv 3) pa_nil)))
      (pss_cons (ps_for PassesOwn.never rfl (pi_zipTL (by rfl) T.n_zip (pa_cons (pv 8) (pa_cons (pv 12) pa_nil))) (pg_tup rfl (pgs_cons (pg_name (i := 15) sc_law.nd rfl (Or.inl rfl)) (pgs_cons (pg_name (i := 16) sc_law.nd rfl (Or.inl rfl)) pgs_nil)))
        (pss_cons (ps_if (PW.pt (pw_or (pt_not (pt_val (pe_fn C_law_group hr (by rfl) (pa_cons (pv 15) pa_nil)))) (pw_or1 (pt_cmpR (op_neD 1 hu2) (pe_slice sl_tup (pv 15) po_none (po_some pe_int)) (pv 16) (nomark _)))))
          (pss_one (ps_ret pe_bl)) pss_nil)
        (pss_cons (ps_set (i := 17) sc_law.nd rfl (Or.inl rfl) pe_int)
        (pss_cons (ps_for PassesOwn.never rfl (pi_tup (pe_ix ix_tup (pv 16) pe_int (fun _ _ => rfl))) (pg_name (i := 6) sc_law.nd rfl (Or.inl rfl))
          (pss_one (ps_set (i := 17) sc_law.nd rfl (Or.inl rfl) (pe_op op_add (pe_op op_add (pv 17) pe_int) (pe_callB call_len_seq (by rfl) T.n_len PySem.boot_len (pa_cons (pe_comp (M := ["_law_row_here"]) (ρ := [none]) (defScope s_law) ["_law_script", "_law_many", "_law_names_here", "_law_parts_here", "_law_begun", "_law_asked", "_law_name", "_law_rows", "_law_found", "_law_come_here", "_law_shades", "_law_seen", "_law_due", "_law_bits_here", "_law_rows_by", "_law_group_here", "_law_pair", "_law_size"] ⟨rfl, by decide +kernel, by decide +kernel, by decide +kernel, rfl, by decide +kernel, by decide +kernel⟩ (pi_tup (pe_dget hu (pv 14) (pv 6) (fun _ _ => rfl))) (fun _ _ _ _ _ _ => (pg_name (i := 0) (show (["_law_row_here"] : List Str).Nodup by decide +kernel) rfl (Or.inl rfl))) (fun _ _ _ _ _ _ => (pts_one (pt_cmpR op_ne (pe_ix (ix_tupK (K := K) rfl) (pv 0) pe_int (fun _ _ => rfl)) pe_str (nomark _)))) (fun _ _ _ _ _ _ => (pv 0))) pa_nil))))))
        (pss_one (ps_if (pt_cmpR op_ne (pe_ix ix_tup (pv 15) pe_int (fun _ _ => rfl)) (pv 17) (nomark _))
          (pss_one (ps_ret pe_bl)) pss_nil))))))
      (pss_one (ps_ret pe_bl)))))))))))))))))))), ?_⟩
    refine ⟨_, rfl, a, ns, 1, rfl, hS, by decide, fun c => ⟨_, _, rfl, rfl, (by show (0 : Int) < 7; decide), _, _, rfl, rfl, ?_⟩⟩
    refine g_if_any (Pv := One24) (fun Q' h => ⟨_, rfl, a, ns, 1, rfl, hS, by decide, fun c1 => ⟨_, _, rfl, rfl, ⟨by decide, by decide⟩, _, _, rfl, rfl, (by show (0 : Int) < 4; decide), rfl, _, rfl, h _⟩⟩) (fun Q' h => ⟨_, rfl, a, ns, 1, rfl, hS, by decide, fun c1 => ⟨_, _, rfl, rfl, ⟨by decide, by decide⟩, _, _, rfl, rfl, (by show (0 : Int) < 24; decide), _, _, rfl, rfl, h _ ⟨_, rfl, by omega, by omega⟩⟩⟩) ⟨_, rfl, by omega, by omega⟩ ?_
    rintro _ ⟨n, rfl, hn1, hn2⟩
    refine ⟨_, rfl, a, ns, 0, rfl, hS, by decide, fun c0 => ⟨_, rfl, c0, n, rfl, hn1, hn2, fun nl nms H1 s1 _ hnl hnml hnd => ?_⟩⟩
    have hS1 : SqL K H1 a (ns.map V.int) := s1.seq hS
    refine ⟨_, rfl, _, rfl, _, rfl, a, ns, 2, rfl, hS1, by decide, fun d => ⟨_, _, rfl, rfl, (by show (0 : Int) < 6; decide), a, ns, 4, d % 6, nl, nms, rfl, hS1, hlen, by decide, by decide, hnl, by omega, by omega, hnd, fun x ps H2 s2 hpf hnm hfit hinN => ?_⟩⟩
    have hcl := closedB_of hnm hnd hinN
    have s12 := s1.trans s2
    have hnl2 := s2 _ _ hnl
    refine ⟨_, rfl, _, rfl, a, ns, 3, rfl, s12.seq hS, by decide, fun c3 => ⟨nl, c3, 12, nms, rfl, hnl2, by omega, by omega, by decide, fun b bs H3 s3 hb hbl hbin => ?_⟩⟩
    have s123 := s12.trans s3
    have hpf3 := s3.partsF hpf
    have hnl3 := s3 _ _ hnl2
    obtain ⟨oo, ws, ha, ho, hps⟩ := id hpf3
    have sqx : ∀ {H' : Hp}, Same H3 H' → SqT K H' x ws := fun s2 => .inl (.inr ⟨oo, s2 _ _ ha⟩)
    have hwl : ws.length = ps.length := Paired.length hps
    have hpi := hfit.hi
    have hpn : ps.length = nms.length := by rw [← hnm, List.length_map]
    refine ⟨(by show 0 ≤ sizeLine; decide), fun L gL => ?_⟩
    have s4 : Same H3 (upd H3 L (.lst [])) := (Same.refl H3).new gL
    have haskL : ∀ i, (((ps.take i).flatMap fun pt => pt.2.filterMap askN)).length ≤ 960 := fun i => by
      have h1 := flat_len (ps := ps.take i) fun pt hpt => hfit.rows pt (List.mem_of_mem_take hpt)
      rw [List.length_take] at h1
      omega
    refine ⟨_, rfl, x, rfl, ⟨_, sqx s4⟩, for_tup (K := K) (a := x) (xs := ws) (fun i σ H5 => ∃ v6 v7 : Option V, σ = [some (.ref a), some (.int n), some (.ref nl), some (.ref x), some (.ref b), some (.ref L), v6, v7, none, none, none, none, none, none, none, none, none, none] ∧ Same H3 H5 ∧ H5 L = some (.lst (((ps.take i).flatMap fun pt => pt.2.filterMap askN).map V.str)))
      ⟨none, none, rfl, s4, by rw [upd_same]; simp⟩ (fun i σ H5 _ ⟨_, _, _, s5, _⟩ => sqx s5) ?_ ?_⟩
    · rintro i y σ H5 hy ⟨v6, v7, rfl, s5, hL5⟩
      obtain ⟨pt, hpt, t, u, zs, ey, ht, hu', hrs⟩ := Paired.get? hps hy
      subst ey
      have hzl : zs.length = pt.2.length := Paired.length hrs
      have h40 := hfit.rows _ (List.mem_of_getElem? hpt)
      refine ⟨t, _, rfl, SqT.of (s5 _ _ ht), rfl, _, _, rfl, _, _, rfl, rfl, ?_⟩
      refine ⟨_, rfl, .inl ⟨rfl, _, SqL.of hL5⟩, _, rfl, u, rfl, ⟨_, SqT.of (s5 _ _ hu')⟩, fun D gD => ?_⟩
      refine comp_by zs.length (fun j σ H6 => ∃ v0 : Option V, σ = [v0] ∧ Same H5 H6 ∧ H6 D = some (.lst (((pt.2.take j).filterMap askN).map V.str))) ⟨_, rfl, (Same.refl H5).new gD, upd_same⟩ ?_ ?_
      · rintro j σ H6 hj ⟨v0, rfl, s6, hD6⟩
        have hu6 := s6 _ _ (s5 _ _ hu')
        refine ⟨⟨zs, zs[j], SqT.of hu6, by simp⟩, ?_⟩
        rintro y H7 ⟨rfl, hy7⟩
        obtain ⟨rw, hrw, r, er, hra⟩ := Paired.get? hrs (hy7 _ (SqT.of hu6))
        subst er
        have hra7 := hra.mono (s5.trans s6).tups
        have hl7 : (((pt.2.take j).filterMap askN).map V.str).length ≤ 40 := by
          rw [List.length_map]
          have h2 : ((pt.2.take j).filterMap askN).length ≤ (pt.2.take j).length := List.length_filterMap_le _ _
          rw [List.length_take] at h2
          omega
        rcases row_ask hra7 with ⟨m, rest, hm, hk, hrt⟩ | ⟨hm, hk, x1, rest, hrt⟩
        · have z0 : atI (V.str "ask" :: V.str m :: rest) 0 = some (.str "ask") := atI_nat (j := 0) rfl
          have z1 : atI (V.str "ask" :: V.str m :: rest) 1 = some (.str m) := atI_nat (j := 1) rfl
          refine ⟨_, rfl, r, _, _, _, rfl, rfl, SqT.of hrt, z0, rfl, _, rfl, iteSE ?_⟩
          refine ⟨_, rfl, r, _, _, _, rfl, rfl, SqT.of hrt, z1, _, hD6, small1000 (by omega), _, rfl, s6.put gD, ?_⟩
          rw [upd_same, take_succ_get hrw, List.filterMap_append, List.map_append]
          simp [hm]
        · have z0 : atI (V.str (kindS rw) :: x1 :: rest) 0 = some (.str (kindS rw)) := atI_nat (j := 0) rfl
          refine ⟨_, rfl, r, _, _, _, rfl, rfl, SqT.of hrt, z0, rfl, _, rfl, iteSN hk ?_⟩
          refine ⟨_, rfl, s6, ?_⟩
          rw [take_succ_get hrw, List.filterMap_append, hD6]
          simp [hm]
      · rintro σ H6 ⟨v0, rfl, s6, hD6⟩
        refine ⟨⟨zs, SqT.of (s6 _ _ (s5 _ _ hu')), Nat.le_refl _⟩, ?_⟩
        rw [hzl, List.take_length] at hD6
        have hL6 := s6 _ _ hL5
        have hfl : ((ps.take (i + 1)).flatMap fun pt => pt.2.filterMap askN) = ((ps.take i).flatMap fun pt => pt.2.filterMap askN) ++ pt.2.filterMap askN := by
          rw [take_succ_get hpt, List.flatMap_append]
          simp
        have hll := haskL (i + 1)
        rw [hfl, List.length_append] at hll
        refine ⟨L, D, _, _, rfl, rfl, hL6, hD6, Nat.le_of_lt (small1000 (by rw [List.length_map, List.length_map]; omega)), _, _, rfl, (s5.trans s6).put gL, ?_⟩
        rw [upd_same, hfl, List.map_append]
    · rintro σ H5' ⟨v6, v7, rfl, s5', hL5'⟩
      rw [hwl, List.take_length] at hL5'
      have hAL : (ps.flatMap fun pt => pt.2.filterMap askN) = asked ps := (asked_flat ps).symm
      rw [hAL] at hL5'
      refine ⟨_, rfl, _, rfl, x, b, ps, bs, rfl, s5'.partsF hpf3, hfit, hcl, s5' _ _ hb, by omega, fun r hr => by rw [hnm]; exact hbin r hr, fun ga gs H5 sG hga hgs => ?_⟩
      have s5 := s5'.trans sG
      have hL5 := sG _ _ hL5'
      clear hL5'
      have hroots : rootsOf ps bs = bs ++ nms.filter fun n => decide (n ∈ asked ps) && !decide (n ∈ bs) := by unfold rootsOf; rw [hnm]
      generalize asked ps = AL at hL5 hroots
      have hnl5 := s5 _ _ hnl3
      have hb5 := s5 _ _ hb
      refine ⟨_, rfl, _, rfl, nl, rfl, ⟨_, SqL.of hnl5⟩, fun D gD => ?_⟩
      refine comp_by nms.length (fun i σ H6 => ∃ v0 : Option V, σ = [v0, some (.ref L), some (.ref b)] ∧ Same H5 H6 ∧ H6 D = some (.lst (((nms.take i).filter fun n => decide (n ∈ AL) && !decide (n ∈ bs)).map V.str))) ⟨_, rfl, (Same.refl H5).new gD, by rw [upd_same]; simp⟩ ?_ ?_
      · rintro i σ H6 hi ⟨v0, rfl, s6, hD6⟩
        refine ⟨⟨_, .str nms[i], SqL.of (s6 _ _ hnl5), by simp [hi]⟩, ?_⟩
        rintro y H7 ⟨rfl, hy7⟩
        have hn : nms[i]? = some nms[i] := by simp [hi]
        have ey : y = .str nms[i] := Option.some.inj ((hy7 _ (SqL.of (s6 _ _ hnl5))).symm.trans (by rw [List.getElem?_map, hn]; rfl))
        subst ey
        refine tand_pure (a := decide (nms[i] ∈ AL)) (b := !decide (nms[i] ∈ bs)) (fun Q' h => ⟨_, rfl, _, rfl, L, _, rfl, .inl (SqL.of (s6 _ _ hL5)), rfl, strs_flat _, _, rfl, by rw [if_neg Bool.false_ne_true, inV_strs]; exact h⟩) (fun Q' h => ⟨_, rfl, _, rfl, b, _, rfl, .inr (SqT.of (s6 _ _ hb5)), rfl, strs_flat _, _, rfl, by rw [if_pos rfl, inV_strs]; exact h⟩) _ ?_
        refine ite2 (fun hc => ?_) (fun hc => ?_)
        · refine ⟨_, rfl, _, hD6, small1000 ?_, _, rfl, s6.put gD, ?_⟩
          · rw [List.length_map]
            have h2 := List.length_filter_le (fun n => decide (n ∈ AL) && !decide (n ∈ bs)) (nms.take i)
            rw [List.length_take] at h2
            omega
          · rw [upd_same, filter_snoc hn, if_pos hc, List.map_append]
            rfl
        · refine ⟨_, rfl, s6, ?_⟩
          rw [filter_snoc hn, if_neg hc, List.append_nil]
          exact hD6
      · rintro σ H6 ⟨v0, rfl, s6, hD6⟩
        refine ⟨⟨_, SqL.of (s6 _ _ hnl5), by simp⟩, ?_⟩
        rw [List.take_length] at hD6
        refine ⟨D, _, rfl, .inl ⟨SqL.of hD6, fun t gt => ?_⟩⟩
        have s7 := s6.new (o := .tup ((nms.filter fun n => decide (n ∈ AL) && !decide (n ∈ bs)).map V.str)) gt
        have hfl := List.length_filter_le (fun n => decide (n ∈ AL) && !decide (n ∈ bs)) nms
        refine cat_same (s7 _ _ hb5) upd_same (by rw [List.length_map, List.length_map]; omega) fun rt H8 s8 hrt => ?_
        have s38 := (s5.trans s7).trans s8
        rw [← List.map_append] at hrt
        have hrl : (bs ++ nms.filter fun n => decide (n ∈ AL) && !decide (n ∈ bs)).length ≤ 48 := by
          rw [List.length_append]
          omega
        have hrN : ∀ r ∈ (bs ++ nms.filter fun n => decide (n ∈ AL) && !decide (n ∈ bs)), r ∈ ps.map (·.1) := fun r hr => by
          rw [hnm]
          rcases List.mem_append.mp hr with z | z
          · exact hbin r z
          · exact (List.mem_filter.mp z).1
        rw [← hroots] at hrt hrl hrN
        generalize rootsOf ps bs = rs at hrt hrl hrN hgs
        have hpf8 := s38.partsF hpf3
        refine ⟨_, rfl, rt, rfl, ⟨_, SqT.of hrt⟩, fun D2 gD2 => ?_⟩
        refine comp_by rs.length (fun i σ H9 => ∃ (v0 : Option V) (us : List V) (Ls : List (List Str)), σ = [v0, some (.ref x)] ∧ Same H8 H9 ∧ H9 D2 = some (.lst us) ∧ us.length = i ∧ Paired (LsD D2 H9) us Ls ∧ Paired (fun r L => ∀ m, m ∈ L ↔ Rc (k1 ps) r m) (rs.take i) Ls) ⟨_, [], [], rfl, (Same.refl H8).new gD2, upd_same, rfl, .nil, by rw [List.take_zero]; exact .nil⟩ ?_ ?_
        · rintro i σ H9 hi ⟨v0, us, Ls, rfl, s9, hD9, hul, hLs, hRs⟩
          refine ⟨⟨_, .str rs[i], SqT.of (s9 _ _ hrt), by simp [hi]⟩, ?_⟩
          rintro y H10 ⟨rfl, hy⟩
          have hn : rs[i]? = some rs[i] := by simp [hi]
          have ey : y = .str rs[i] := Option.some.inj ((hy _ (SqT.of (s9 _ _ hrt))).symm.trans (by rw [List.getElem?_map, hn]; rfl))
          subst ey
          refine ntG ?_
          refine ⟨_, rfl, _, rfl, x, ps, rs[i], rfl, s9.partsF hpf8, hfit, hcl, hrN _ (List.getElem_mem hi), fun l Lc H11 s11 gl hl _ hLm => ?_⟩
          have hlD : l ≠ D2 := fun z => by rw [z, hD9] at gl; cases gl
          refine ⟨us, s11 _ _ hD9, small1000 (by omega), _, us ++ [.ref l], Ls ++ [Lc], rfl, (s9.trans s11).put gD2, upd_same, by rw [List.length_append, hul]; rfl, ?_, ?_⟩
          · refine Paired.snoc (Paired.mapP hLs fun _ _ ⟨t, e, h1, h2⟩ => ⟨t, e, h1, ?_⟩) ⟨l, rfl, hlD, ?_⟩
            · rw [upd_ne h1]; exact s11 _ _ h2
            · rw [upd_ne hlD]; exact hl
          · rw [take_succ_get hn]
            exact Paired.snoc hRs hLm
        · rintro σ H9 ⟨v0, us, Ls, rfl, s9, hD9, hul, hLs, hRs⟩
          refine ⟨⟨_, SqT.of (s9 _ _ hrt), by simp⟩, ?_⟩
          rw [List.take_length] at hRs
          have s39 := s38.trans s9
          have hpf9 := s9.partsF hpf8
          have hnl9 := s39 _ _ hnl3
          have hrt9 := s9 _ _ hrt
          have hS9 : ∀ {H' : Hp}, Same H9 H' → SqL K H' a (ns.map V.int) := fun s => (s123.trans (s39.trans s)).seq hS
          have hgt9 := ((s6.trans ((Same.refl H6).new gt)).trans s8).trans s9
          have hga9 := hgt9 _ _ hga
          have hgs9 : Paired (GrAt ps (tintF ps rs) H9) gs (dd (tintF ps rs) (ps.map (·.1))) := Paired.mapP hgs fun _ _ ⟨g', tn, h1, h2, h3⟩ => ⟨g', tn, h1, hgt9 _ _ h2, hgt9 _ _ h3⟩
          have hLl : Ls.length ≤ 48 := by rw [← Paired.length hRs]; exact hrl
          refine ⟨_, rfl, _, _, _, _, rfl, .tup hga9, kit_same _ _, _, rfl, iteF ?_⟩
          refine ⟨_, rfl, nl, rfl, ⟨_, SqL.of hnl9⟩, fun D3 gD3 => ?_⟩
          refine comp_lst (K := K) (a := nl) (xs := nms.map V.str) (fun i σ H10 => ∃ v0 : Option V, σ = [v0, some (.ref D2)] ∧ Same H9 H10 ∧ H10 D3 = some (.lst (((nms.take i).map (tintF ps rs)).map V.int))) ⟨_, rfl, (Same.refl H9).new gD3, upd_same⟩ (fun i σ H10 ⟨_, _, s10, _⟩ => SqL.of (s10 _ _ hnl9)) ?_ ?_
          · rintro i y σ H10 hy ⟨v0, rfl, s10, hD10⟩
            rw [List.getElem?_map] at hy
            obtain ⟨m, hm, rfl⟩ := Option.map_eq_some_iff.mp hy
            refine ntG ?_
            refine ⟨_, rfl, _, rfl, D2, us, Ls, m, rfl, s10 _ _ hD9, Paired.mapP hLs fun _ _ ⟨t, e, h1, h2⟩ => ⟨t, e, h1, s10 _ _ h2⟩, by omega, ?_⟩
            rw [bits_rc hRs]
            refine ⟨_, hD10, small1000 (by rw [List.length_map, List.length_map, List.length_take]; omega), _, rfl, s10.put gD3, ?_⟩
            rw [upd_same, take_succ_get hm, List.map_append, List.map_append]
            rfl
          · rintro σ H10 ⟨v0, rfl, s10, hD10⟩
            rw [List.length_map, List.take_of_length_le (Nat.le_refl _)] at hD10
            generalize tintF ps rs = f at hgs9 hD10
            have hgs10 : Paired (GrAt ps f H10) gs (dd f nms) := by rw [← hnm]; exact Paired.mapP hgs9 fun _ _ ⟨g', tn, h1, h2, h3⟩ => ⟨g', tn, h1, s10 _ _ h2, s10 _ _ h3⟩
            have hga10 := s10 _ _ hga9
            have hnl10 := s10 _ _ hnl9
            have hpf10 := s10.partsF hpf9
            refine ⟨(by show 0 ≤ sizeLine; decide), fun S gS => ?_⟩
            refine ⟨(by show 0 ≤ sizeLine; decide), fun U gU => ?_⟩
            have hSU : S ≠ U := fun z => by rw [← z, upd_same] at gU; cases gU
            have gU10 : H10 U = none := ((Same.refl H10).new gS).free gU
            refine ⟨_, rfl, D3, rfl, ⟨_, SqL.of (upd_keep (upd_keep hD10 gS) gU)⟩, for_list (K := K) (a := D3) (xs := (nms.map f).map V.int) (fun i σ H12 => ∃ (du : List V) (v13 : Option V), σ = [some (.ref a), some (.int n), some (.ref nl), some (.ref x), some (.ref rt), some (.ref L), v6, v7, some (.ref ga), some (.ref D2), some (.ref D3), some (.ref S), some (.ref U), v13, none, none, none, none] ∧ Same H10 H12 ∧ H12 S = some (.lst ((dd f (nms.take i)).map V.int)) ∧ H12 U = some (.lst du) ∧ Paired (DuAt f nms H12) du (dd f (nms.take i)))
              ⟨[], none, rfl, ((Same.refl H10).new gS).new gU, upd_keep upd_same gU, upd_same, .nil⟩ (fun i σ H12 _ ⟨_, _, _, s12, _⟩ => SqL.of (s12 _ _ hD10)) ?_ ?_⟩
            · rintro i y σ H12 hy ⟨du, v13, rfl, s12, hS12, hU12, hdu⟩
              obtain ⟨m, hm, rfl⟩ : ∃ m, nms[i]? = some m ∧ y = V.int (f m) := by
                rw [List.map_map, List.getElem?_map] at hy
                obtain ⟨m, h1, h2⟩ := Option.map_eq_some_iff.mp hy
                exact ⟨m, h1, h2.symm⟩
              have hi := (List.getElem?_eq_some_iff.mp hm).1
              have hdl : (dd f (nms.take i)).length ≤ 24 := by
                have h1 := dd_len (f := f) (nms.take i) []
                rw [List.length_take] at h1
                unfold dd
                simp only [List.length_nil] at h1
                omega
              have hdul : du.length ≤ 24 := by rw [Paired.length hdu]; exact hdl
              refine ⟨_, rfl, _, _, rfl, rfl, _, rfl, ite2 (fun hc => ?_) (fun hc => ?_)⟩
              · have h0 : 0 < f m := of_decide_eq_true hc
                refine ⟨_, rfl, _, rfl, S, _, rfl, .inl (SqL.of hS12), rfl, ints_flat _, _, rfl, ?_⟩
                rw [if_pos rfl]
                show if (!inV (V.int (f m)) ((dd f (nms.take i)).map V.int)) = true then _ else _
                rw [inV_ints]
                by_cases hin : f m ∈ dd f (nms.take i)
                · rw [decide_eq_true hin]
                  refine iteF ⟨du, _, rfl, s12, ?_, hU12, ?_⟩
                  · rw [take_succ_get hm, dd_snoc]; unfold ddS; rw [if_neg (fun z => z.2 hin)]; exact hS12
                  · rw [take_succ_get hm, dd_snoc]; unfold ddS; rw [if_neg (fun z => z.2 hin)]; exact hdu
                · rw [decide_eq_false hin]
                  refine iteT ?_
                  refine ⟨_, rfl, .inl ⟨rfl, _, SqL.of hS12⟩, _, rfl, S, _, _, rfl, rfl, hS12, small1000 (by rw [List.length_map]; omega), ?_⟩
                  have s13 : Same H10 (upd H12 S (.lst ((dd f (nms.take i)).map V.int ++ [.int (f m)]))) := s12.put gS
                  have hS13 : upd H12 S (.lst ((dd f (nms.take i)).map V.int ++ [.int (f m)])) S = some (.lst ((dd f (nms.take i)).map V.int ++ [.int (f m)])) := upd_same
                  have hU13 : upd H12 S (.lst ((dd f (nms.take i)).map V.int ++ [.int (f m)])) U = some (.lst du) := by rw [upd_ne hSU.symm]; exact hU12
                  have t13 : Tups H12 (upd H12 S (.lst ((dd f (nms.take i)).map V.int ++ [.int (f m)]))) := Tups.lst hS12
                  generalize upd H12 S (.lst ((dd f (nms.take i)).map V.int ++ [.int (f m)])) = H13 at s13 hS13 hU13 t13 ⊢
                  have hdu13 : Paired (DuAt f nms H13) du (dd f (nms.take i)) := Paired.mapP hdu fun _ _ ⟨p, tn, h1, h2, h3⟩ => ⟨p, tn, h1, t13 _ _ h2, t13 _ _ h3⟩
                  refine ⟨_, rfl, .inl ⟨rfl, _, SqL.of hU13⟩, _, rfl, _, rfl, _, rfl, nl, D3, rfl, ⟨_, SqL.of (s13 _ _ hnl10)⟩, ⟨_, SqL.of (s13 _ _ hD10)⟩, fun D4 gD4 => ?_⟩
                  refine comp_zipL (K := K) (a := nl) (b := D3) (xs := nms.map V.str) (ys := (nms.map f).map V.int) (by simp) (fun j σ H14 => ∃ v0 v1 : Option V, σ = [v0, v1, some (.int (f m))] ∧ Same H13 H14 ∧ H14 D4 = some (.lst ((gn f (nms.take j) (f m)).map V.str))) ⟨_, _, rfl, (Same.refl H13).new gD4, upd_same⟩ (fun j σ H14 ⟨_, _, _, s14, _⟩ => ⟨SqL.of (s14 _ _ (s13 _ _ hnl10)), SqL.of (s14 _ _ (s13 _ _ hD10))⟩) ?_ ?_
                  · rintro j x1 y1 p σ H14 hx1 hy1 ⟨v0, v1, rfl, s14, hD14⟩ gp
                    rw [List.getElem?_map] at hx1
                    obtain ⟨n2, hn2, rfl⟩ := Option.map_eq_some_iff.mp hx1
                    have ey1 : y1 = .int (f n2) := by
                      rw [List.getElem?_map, List.getElem?_map, hn2] at hy1
                      exact (Option.some.inj hy1).symm
                    subst ey1
                    have hj := (List.getElem?_eq_some_iff.mp hn2).1
                    have hD15 := upd_keep (o := .tup [.str n2, .int (f n2)]) hD14 gp
                    have hgl : (gn f (nms.take j) (f m)).length ≤ 24 := by
                      have h1 := List.length_filter_le (fun q => decide (f q = f m)) (nms.take j)
                      rw [List.length_take] at h1
                      unfold gn
                      omega
                    refine ⟨p, _, rfl, SqT.of upd_same, rfl, _, _, rfl, _, _, rfl, rfl, ?_⟩
                    refine ⟨_, rfl, _, rfl, rfl, _, rfl, ite2I (fun c => ?_) (fun c => ?_)⟩
                    · refine ⟨_, rfl, _, hD15, small1000 (by rw [List.length_map]; omega), _, _, rfl, (s14.new gp).put gD4, ?_⟩
                      rw [upd_same, take_succ_get hn2, gn_snoc, if_pos c, List.map_append]
                      rfl
                    · refine ⟨_, _, rfl, s14.new gp, ?_⟩
                      rw [take_succ_get hn2, gn_snoc, if_neg c, List.append_nil]
                      exact hD15
                  · rintro σ H14 ⟨v0, v1, rfl, s14, hD14⟩
                    rw [List.length_map, List.take_of_length_le (Nat.le_refl _)] at hD14
                    refine ⟨D4, _, rfl, .inl ⟨SqL.of hD14, fun tn gtn => ⟨(by show 2 ≤ sizeLine; decide), fun p gp => ?_⟩⟩⟩
                    have u15 : Same H13 (upd (upd H14 tn (.tup ((gn f nms (f m)).map V.str))) p (.tup [.int (f m), .ref tn])) := (s14.new gtn).new gp
                    have hU15 := u15 _ _ hU13
                    refine ⟨U, _, _, rfl, rfl, hU15, small1000 (by omega), ?_⟩
                    have t15 := Tups.lst (ys := du ++ [.ref p]) hU15
                    refine ⟨du ++ [.ref p], _, rfl, (s13.trans u15).put gU10, ?_, upd_same, ?_⟩
                    · rw [upd_ne hSU, take_succ_get hm, dd_snoc]
                      unfold ddS
                      rw [if_pos ⟨h0, hin⟩, List.map_append]
                      exact u15 _ _ hS13
                    · rw [take_succ_get hm, dd_snoc]
                      unfold ddS
                      rw [if_pos ⟨h0, hin⟩]
                      refine Paired.snoc (Paired.mapP hdu13 fun _ _ ⟨p', tn', h1, h2, h3⟩ => ⟨p', tn', h1, t15 _ _ (u15 _ _ h2), t15 _ _ (u15 _ _ h3)⟩) ⟨p, tn, rfl, t15 _ _ upd_same, t15 _ _ (upd_keep upd_same gp)⟩
              · have h0 : ¬ 0 < f m := fun z => hc (decide_eq_true z)
                refine ⟨du, _, rfl, s12, ?_, hU12, ?_⟩
                · rw [take_succ_get hm, dd_snoc]; unfold ddS; rw [if_neg (fun z => h0 z.1)]; exact hS12
                · rw [take_succ_get hm, dd_snoc]; unfold ddS; rw [if_neg (fun z => h0 z.1)]; exact hdu
            · rintro σ H12 ⟨du, v13, rfl, s12, hS12, hU12, hdu⟩
              rw [List.length_map, List.length_map, List.take_of_length_le (Nat.le_refl _)] at hdu
              have hgl : gs.length = du.length := by rw [Paired.length hgs10, Paired.length hdu]
              refine ⟨_, rfl, ga, _, rfl, .inr (SqT.of (s12 _ _ hga10)), _, rfl, U, _, rfl, .inl (SqL.of hU12), rfl, _, rfl, ?_⟩
              show if (!decide (V.int (gs.length : Int) = V.int (du.length : Int))) = true then _ else _
              rw [hgl]
              refine neIF ?_
              obtain ⟨o2, vs2, ha2, ho2, hps2⟩ := id (s12.partsF hpf10)
              obtain ⟨qs, g1, g2, g3⟩ := parts_pairs (K := K) hps2
              have hql : qs.length = ps.length := by
                have := congrArg List.length g2
                simpa using this
              refine ⟨_, rfl, x, o2, vs2, qs, rfl, ha2, ho2, g1, (by omega), fun e ge => ?_⟩
              have s13 : Same H12 (upd H12 e (.dK (foldP qs []))) := (Same.refl H12).new ge
              have he13 : upd H12 e (.dK (foldP qs [])) e = some (.dK (foldP qs [])) := upd_same
              generalize upd H12 e (.dK (foldP qs [])) = H13 at s13 he13 ⊢
              have s1013 := s12.trans s13
              refine ⟨_, rfl, _, rfl, ga, U, rfl, ⟨_, SqT.of (s1013 _ _ hga10)⟩, ⟨_, SqL.of (s13 _ _ hU12)⟩, for_zipTL (K := K) (a := ga) (b := U) (xs := gs) (ys := du) (fun i σ H14 => ∃ v6 v15 v16 v17 : Option V, σ = [some (.ref a), some (.int n), some (.ref nl), some (.ref x), some (.ref rt), some (.ref L), v6, v7, some (.ref ga), some (.ref D2), some (.ref D3), some (.ref S), some (.ref U), v13, some (.ref e), v15, v16, v17] ∧ Same H13 H14) hgl
                ⟨_, _, _, _, rfl, Same.refl H13⟩ (fun i σ H14 _ ⟨_, _, _, _, _, s14⟩ => ⟨SqT.of (s14 _ _ (s1013 _ _ hga10)), SqL.of (s14 _ _ (s13 _ _ hU12))⟩) ?_ ?_⟩
              · rintro i gx dy p σ H14 hgx hdy ⟨v6', v15, v16, v17, rfl, s14⟩ gp
                obtain ⟨t, ht, g, tn, rfl, hg, htn⟩ := Paired.get? hgs10 hgx
                obtain ⟨t', ht', p2, tn2, rfl, hp2, htn2⟩ := Paired.get? hdu hdy
                have ett : t' = t := by rw [ht] at ht'; exact (Option.some.inj ht').symm
                subst ett
                rw [hnm] at hg htn
                have s15 : Same H13 (upd H14 p (.tup [.ref g, .ref p2])) := s14.new gp
                have hp15 : upd H14 p (.tup [.ref g, .ref p2]) p = some (.tup [.ref g, .ref p2]) := upd_same
                generalize upd H14 p (.tup [.ref g, .ref p2]) = H15 at s15 hp15 ⊢
                have S15 := s1013.trans s15
                have V15 := s13.trans s15
                have htm := dd_mem.mp (List.mem_of_getElem? ht)
                obtain ⟨ht0, n0, hn0, hf0⟩ := htm
                have hne : gn f nms t' ≠ [] := fun z => by
                  have : n0 ∈ gn f nms t' := List.mem_filter.mpr ⟨hn0, decide_eq_true hf0⟩
                  rw [z] at this; cases this
                have hg24 : (gn f nms t').length ≤ 24 := by
                  have h1 := List.length_filter_le (fun q => decide (f q = t')) nms
                  unfold gn
                  omega
                refine ⟨p, _, rfl, SqT.of hp15, rfl, _, _, rfl, _, _, rfl, rfl, ?_⟩
                refine ⟨_, rfl, g, tn, t', _, gn f nms t', rfl, S15 _ _ hg, S15 _ _ htn, hne, hg24, fun H16 s16 => ⟨_, rfl, iteF ?_⟩⟩
                have S16 := S15.trans s16
                have V16 := V15.trans s16
                refine ⟨_, rfl, _, rfl, g, _, rfl, SqT.of (S16 _ _ hg), (by show ¬ (HT.sIx 3 0 none = 0 ∧ HT.sIx 3 3 (some 2) = 3); decide), fun q2 gq2 => ?_⟩
                have u17 : Same H16 (upd H16 q2 (.tup (cutV [V.int t', V.ref tn, V.int (szN ps (gn f nms t'))] none (some 2)))) := (Same.refl H16).new gq2
                have hq17 : upd H16 q2 (.tup (cutV [V.int t', V.ref tn, V.int (szN ps (gn f nms t'))] none (some 2))) q2 = some (.tup [.int t', .ref tn]) := upd_same
                generalize upd H16 q2 (.tup (cutV [V.int t', V.ref tn, V.int (szN ps (gn f nms t'))] none (some 2))) = H17 at u17 hq17 ⊢
                have S17 := S16.trans u17
                have V17 := V16.trans u17
                have s1317 := (s15.trans s16).trans u17
                refine ⟨_, rfl, q2, p2, _, _, rfl, rfl, SqT.of hq17, SqT.of (V17 _ _ hp2), .cons (.inl ⟨rfl, rfl⟩) (.cons (.inr ⟨tn, tn2, _, _, rfl, rfl, SqT.of (S17 _ _ htn), SqT.of (V17 _ _ htn2), strs_d _⟩) .nil), _, rfl, iteF ?_⟩
                refine ⟨_, rfl, p2, _, _, _, rfl, rfl, SqT.of (V17 _ _ hp2), atI_nat (j := 1) rfl, tn2, rfl, ⟨_, SqT.of (V17 _ _ htn2)⟩, for_tup (K := K) (a := tn2) (xs := (gn f nms t').map V.str) (fun j σ H18 => ∃ v6 : Option V, σ = [some (.ref a), some (.int n), some (.ref nl), some (.ref x), some (.ref rt), some (.ref L), v6, v7, some (.ref ga), some (.ref D2), some (.ref D3), some (.ref S), some (.ref U), v13, some (.ref e), some (.ref g), some (.ref p2), some (.int (((gn f nms t').take j).map fun n => szR (rowsOf ps n)).sum)] ∧ Same H17 H18)
                  ⟨_, rfl, Same.refl H17⟩ (fun j σ H18 _ ⟨_, _, s18⟩ => SqT.of (s18 _ _ (V17 _ _ htn2))) ?_ ?_⟩
                · rintro j y1 σ H18 hy1 ⟨v6'', rfl, s18⟩
                  rw [List.getElem?_map] at hy1
                  obtain ⟨n2, hn2, rfl⟩ := Option.map_eq_some_iff.mp hy1
                  have hn2m : n2 ∈ ps.map (·.1) := by
                    rw [hnm]
                    exact (List.mem_filter.mp (List.mem_of_getElem? hn2)).1
                  obtain ⟨rs2, hmem⟩ := part_of hn2m
                  obtain ⟨u2, ws2, k1', k2', k3'⟩ := g3 _ rs2 hmem
                  have hrow : rowsOf ps n2 = rs2 := rowsOf_eq hfit.nd hmem
                  have h40 : rs2.length ≤ 40 := hfit.rows _ hmem
                  have hu18 := s18 _ _ (V17 _ _ k2')
                  have hrs18 := k3'.mono (V17.trans s18).tups
                  have hwl2 : ws2.length = rs2.length := Paired.length k3'
                  have he18 := s18 _ _ (s1317 _ _ he13)
                  refine ⟨_, rfl, _, _, rfl, rfl, _, rfl, _, rfl, e, .ref u2, rfl, ?_, u2, rfl, ⟨_, SqT.of hu18⟩, fun D5 gD5 => ?_⟩
                  · have hg := DGet.k (k := Sum.inr n2) he18
                    rw [foldP_get qs [] n2 (.ref u2) (by rw [g2]; exact hfit.nd) (.inl k1')] at hg
                    exact hg
                  refine comp_tup (K := K) (a := u2) (xs := ws2) (fun i σ H19 => ∃ (v0 : Option V) (ys : List V), σ = [v0] ∧ Same H18 H19 ∧ H19 D5 = some (.lst ys) ∧ ys.length = ((rs2.take i).filter ngB).length) ⟨_, [], rfl, (Same.refl H18).new gD5, upd_same, rfl⟩ (fun i σ H19 ⟨_, _, _, s19, _⟩ => SqT.of (s19 _ _ hu18)) ?_ ?_
                  · rintro i2 x2 σ H19 hx2 ⟨v0, ys, rfl, s19, hD19, hyl⟩
                    obtain ⟨rw2, hrw2, r2, er2, hra2⟩ := Paired.get? hrs18 hx2
                    subst er2
                    obtain ⟨rest, hk2⟩ := row_kd (hra2.mono s19.tups)
                    have hfl2 := List.length_filter_le ngB (rs2.take i2)
                    rw [List.length_take] at hfl2
                    refine ⟨_, rfl, r2, _, _, _, rfl, rfl, SqT.of hk2, atI_nat (j := 0) rfl, rfl, _, rfl, ?_⟩
                    have eb : (!decide (V.str (kindS rw2) = V.str "give")) = ngB rw2 := by
                      unfold ngB
                      by_cases z : kindS rw2 = "give"
                      · rw [decide_eq_true z, z]; rfl
                      · rw [decide_eq_false z, decide_eq_false (fun y => z (V.str.inj y))]
                    rw [eb]
                    cases hb2 : ngB rw2 with
                    | true =>
                      refine iteT ⟨_, rfl, _, hD19, small1000 (by omega), _, ys ++ [.ref r2], rfl, s19.put gD5, upd_same, ?_⟩
                      rw [filt_snoc hrw2, if_pos hb2, List.length_append, List.length_append, hyl]
                      rfl
                    | false =>
                      refine iteF ⟨_, ys, rfl, s19, hD19, ?_⟩
                      rw [filt_snoc hrw2, if_neg (by rw [hb2]; decide), List.append_nil]
                      exact hyl
                  · rintro σ H19 ⟨v0, ys, rfl, s19, hD19, hyl⟩
                    rw [hwl2, List.take_of_length_le (Nat.le_refl _)] at hyl
                    refine ⟨D5, _, rfl, .inl (SqL.of hD19), _, _, rfl, rfl, some (.str n2), ?_, s18.trans s19⟩
                    have e5 : ((gn f nms t').take (j + 1)).map (fun n => szR (rowsOf ps n)) = ((gn f nms t').take j).map (fun n => szR (rowsOf ps n)) ++ [szR rs2] := by rw [take_succ_get hn2, List.map_append, List.map_cons, List.map_nil, hrow]
                    rw [e5, List.sum_append]
                    have e6 : szR rs2 = 1 + (ys.length : Int) := by rw [hyl]; rfl
                    show [_, _, _, _, _, _, _, _, _, _, _, _, _, _, _, _, _, some (V.int ((((gn f nms t').take j).map fun n => szR (rowsOf ps n)).sum + 1 + (ys.length : Int)))] = _
                    rw [show [szR rs2].sum = szR rs2 by simp, e6, Int.add_assoc]
                · rintro σ H18 ⟨v6'', rfl, s18⟩
                  rw [List.length_map, List.take_of_length_le (Nat.le_refl _)]
                  have hsz : szN ps (gn f nms t') = ((gn f nms t').map fun n => szR (rowsOf ps n)).sum := by
                    have := sz_names (ps := ps) hfit.nd f t'
                    rw [hnm] at this
                    exact this
                  refine ⟨_, rfl, g, _, _, _, rfl, rfl, SqT.of (s18 _ _ (S17 _ _ hg)), atI_nat (j := 2) rfl, _, rfl, rfl, _, rfl, ?_⟩
                  rw [hsz]
                  refine neIF ?_
                  exact ⟨_, _, _, _, rfl, s1317.trans s18⟩
              · rintro σ H14 ⟨v6', v15, v16, v17, rfl, s14⟩
                exact q _
end
end K52
set_option Elab.async false
set_option linter.all false
set_option maxRecDepth 100000
namespace K52
open PySem L2
theorem all_mk {l : PySem.W.OpenLaw} {w : World} {K : PySem.W.Frag} {h : Heap} {mg : Str → Option Value} {fa : Addr} (X : K.In h) (G : h.Ns mainGlobals mg) (hfa : mg "law" = some (.ref fa))
    {f0 : Addr} {od0 an0 : Option Addr} {sl0 : Array (Option Value)} {oc0 kV0 dc0 pm0 cd0 ct0 : Value}
    {f1 : Addr} {od1 an1 : Option Addr} {sl1 : Array (Option Value)} {oc1 kV1 dc1 pm1 cd1 ct1 : Value}
    {f2 : Addr} {od2 an2 : Option Addr} {sl2 : Array (Option Value)} {oc2 kV2 dc2 pm2 cd2 ct2 : Value}
    {f3 : Addr} {od3 an3 : Option Addr} {sl3 : Array (Option Value)} {oc3 kV3 dc3 pm3 cd3 ct3 : Value}
    {f4 : Addr} {od4 an4 : Option Addr} {sl4 : Array (Option Value)} {oc4 kV4 dc4 pm4 cd4 ct4 : Value}
    {f5 : Addr} {od5 an5 : Option Addr} {sl5 : Array (Option Value)} {oc5 kV5 dc5 pm5 cd5 ct5 : Value}
    {f6 : Addr} {od6 an6 : Option Addr} {sl6 : Array (Option Value)} {oc6 kV6 dc6 pm6 cd6 ct6 : Value}
    {f7 : Addr} {od7 an7 : Option Addr} {sl7 : Array (Option Value)} {oc7 kV7 dc7 pm7 cd7 ct7 : Value}
    {f8 : Addr} {od8 an8 : Option Addr} {sl8 : Array (Option Value)} {oc8 kV8 dc8 pm8 cd8 ct8 : Value}
    {f9 : Addr} {od9 an9 : Option Addr} {sl9 : Array (Option Value)} {oc9 kV9 dc9 pm9 cd9 ct9 : Value}
    {f10 : Addr} {od10 an10 : Option Addr} {sl10 : Array (Option Value)} {oc10 kV10 dc10 pm10 cd10 ct10 : Value}
    {f11 : Addr} {od11 an11 : Option Addr} {sl11 : Array (Option Value)} {oc11 kV11 dc11 pm11 cd11 ct11 : Value}
    {f12 : Addr} {od12 an12 : Option Addr} {sl12 : Array (Option Value)} {oc12 kV12 dc12 pm12 cd12 ct12 : Value}
    {f13 : Addr} {od13 an13 : Option Addr} {sl13 : Array (Option Value)} {oc13 kV13 dc13 pm13 cd13 ct13 : Value}
    {f14 : Addr} {od14 an14 : Option Addr} {sl14 : Array (Option Value)} {oc14 kV14 dc14 pm14 cd14 ct14 : Value}
    {f15 : Addr} {od15 an15 : Option Addr} {sl15 : Array (Option Value)} {oc15 kV15 dc15 pm15 cd15 ct15 : Value}
    {f16 : Addr} {od16 an16 : Option Addr} {sl16 : Array (Option Value)} {oc16 kV16 dc16 pm16 cd16 ct16 : Value}
    {f17 : Addr} {od17 an17 : Option Addr} {sl17 : Array (Option Value)} {oc17 kV17 dc17 pm17 cd17 ct17 : Value}
    {f18 : Addr} {od18 an18 : Option Addr} {sl18 : Array (Option Value)} {oc18 kV18 dc18 pm18 cd18 ct18 : Value}
    {f19 : Addr} {od19 an19 : Option Addr} {sl19 : Array (Option Value)} {oc19 kV19 dc19 pm19 cd19 ct19 : Value}
    {f20 : Addr} {od20 an20 : Option Addr} {sl20 : Array (Option Value)} {oc20 kV20 dc20 pm20 cd20 ct20 : Value}
    (a0 : PySem.W.nsIn K mainGlobals "placed_rows" = some (some (.ref f0))) (l0 : K.lookup f0 = some ⟨oc0, od0, .func (PySem.W.fnOf "placed_rows" "placed_rows" (defArgs s_placed_rows) (defBody s_placed_rows) (defScope s_placed_rows) .none kV0 dc0 pm0 an0 cd0 ct0), sl0⟩) (c0 : PySem.W.codeIn K cd0 "placed_rows" = true) (k0 : PySem.W.keepIn K (.ref f0) = true)
    (a1 : PySem.W.nsIn K mainGlobals "brings" = some (some (.ref f1))) (l1 : K.lookup f1 = some ⟨oc1, od1, .func (PySem.W.fnOf "brings" "brings" (defArgs s_brings) (defBody s_brings) (defScope s_brings) .none kV1 dc1 pm1 an1 cd1 ct1), sl1⟩) (c1 : PySem.W.codeIn K cd1 "brings" = true) (k1 : PySem.W.keepIn K (.ref f1) = true)
    (a2 : PySem.W.nsIn K mainGlobals "named_parts" = some (some (.ref f2))) (l2 : K.lookup f2 = some ⟨oc2, od2, .func (PySem.W.fnOf "named_parts" "named_parts" (defArgs s_named_parts) (defBody s_named_parts) (defScope s_named_parts) .none kV2 dc2 pm2 an2 cd2 ct2), sl2⟩) (c2 : PySem.W.codeIn K cd2 "named_parts" = true) (k2 : PySem.W.keepIn K (.ref f2) = true)
    (a3 : PySem.W.nsIn K mainGlobals "order" = some (some (.ref f3))) (l3 : K.lookup f3 = some ⟨oc3, od3, .func (PySem.W.fnOf "order" "order" (defArgs s_order) (defBody s_order) (defScope s_order) .none kV3 dc3 pm3 an3 cd3 ct3), sl3⟩) (c3 : PySem.W.codeIn K cd3 "order" = true) (k3 : PySem.W.keepIn K (.ref f3) = true)
    (a4 : PySem.W.nsIn K mainGlobals "roots" = some (some (.ref f4))) (l4 : K.lookup f4 = some ⟨oc4, od4, .func (PySem.W.fnOf "roots" "roots" (defArgs s_roots) (defBody s_roots) (defScope s_roots) .none kV4 dc4 pm4 an4 cd4 ct4), sl4⟩) (c4 : PySem.W.codeIn K cd4 "roots" = true) (k4 : PySem.W.keepIn K (.ref f4) = true)
    (a5 : PySem.W.nsIn K mainGlobals "colours" = some (some (.ref f5))) (l5 : K.lookup f5 = some ⟨oc5, od5, .func (PySem.W.fnOf "colours" "colours" (defArgs s_colours) (defBody s_colours) (defScope s_colours) .none kV5 dc5 pm5 an5 cd5 ct5), sl5⟩) (c5 : PySem.W.codeIn K cd5 "colours" = true) (k5 : PySem.W.keepIn K (.ref f5) = true)
    (a6 : PySem.W.nsIn K mainGlobals "groups" = some (some (.ref f6))) (l6 : K.lookup f6 = some ⟨oc6, od6, .func (PySem.W.fnOf "groups" "groups" (defArgs s_groups) (defBody s_groups) (defScope s_groups) .none kV6 dc6 pm6 an6 cd6 ct6), sl6⟩) (c6 : PySem.W.codeIn K cd6 "groups" = true) (k6 : PySem.W.keepIn K (.ref f6) = true)
    (a7 : PySem.W.nsIn K mainGlobals "size_of" = some (some (.ref f7))) (l7 : K.lookup f7 = some ⟨oc7, od7, .func (PySem.W.fnOf "size_of" "size_of" (defArgs s_size_of) (defBody s_size_of) (defScope s_size_of) .none kV7 dc7 pm7 an7 cd7 ct7), sl7⟩) (c7 : PySem.W.codeIn K cd7 "size_of" = true) (k7 : PySem.W.keepIn K (.ref f7) = true)
    (a8 : PySem.W.nsIn K mainGlobals "size_of_part" = some (some (.ref f8))) (l8 : K.lookup f8 = some ⟨oc8, od8, .func (PySem.W.fnOf "size_of_part" "size_of_part" (defArgs s_size_of_part) (defBody s_size_of_part) (defScope s_size_of_part) .none kV8 dc8 pm8 an8 cd8 ct8), sl8⟩) (c8 : PySem.W.codeIn K cd8 "size_of_part" = true) (k8 : PySem.W.keepIn K (.ref f8) = true)
    (a9 : PySem.W.nsIn K mainGlobals "_law_cell_at" = some (some (.ref f9))) (l9 : K.lookup f9 = some ⟨oc9, od9, .func (PySem.W.fnOf "_law_cell_at" "_law_cell_at" (defArgs s_law_cell_at) (defBody s_law_cell_at) (defScope s_law_cell_at) .none kV9 dc9 pm9 an9 cd9 ct9), sl9⟩) (c9 : PySem.W.codeIn K cd9 "_law_cell_at" = true) (k9 : PySem.W.keepIn K (.ref f9) = true)
    (a10 : PySem.W.nsIn K mainGlobals "_law_mixed" = some (some (.ref f10))) (l10 : K.lookup f10 = some ⟨oc10, od10, .func (PySem.W.fnOf "_law_mixed" "_law_mixed" (defArgs s_law_mixed) (defBody s_law_mixed) (defScope s_law_mixed) .none kV10 dc10 pm10 an10 cd10 ct10), sl10⟩) (c10 : PySem.W.codeIn K cd10 "_law_mixed" = true) (k10 : PySem.W.keepIn K (.ref f10) = true)
    (a11 : PySem.W.nsIn K mainGlobals "_law_names" = some (some (.ref f11))) (l11 : K.lookup f11 = some ⟨oc11, od11, .func (PySem.W.fnOf "_law_names" "_law_names" (defArgs s_law_names) (defBody s_law_names) (defScope s_law_names) .none kV11 dc11 pm11 an11 cd11 ct11), sl11⟩) (c11 : PySem.W.codeIn K cd11 "_law_names" = true) (k11 : PySem.W.keepIn K (.ref f11) = true)
    (a12 : PySem.W.nsIn K mainGlobals "_law_other" = some (some (.ref f12))) (l12 : K.lookup f12 = some ⟨oc12, od12, .func (PySem.W.fnOf "_law_other" "_law_other" (defArgs s_law_other) (defBody s_law_other) (defScope s_law_other) .none kV12 dc12 pm12 an12 cd12 ct12), sl12⟩) (c12 : PySem.W.codeIn K cd12 "_law_other" = true) (k12 : PySem.W.keepIn K (.ref f12) = true)
    (a13 : PySem.W.nsIn K mainGlobals "_law_row" = some (some (.ref f13))) (l13 : K.lookup f13 = some ⟨oc13, od13, .func (PySem.W.fnOf "_law_row" "_law_row" (defArgs s_law_row) (defBody s_law_row) (defScope s_law_row) .none kV13 dc13 pm13 an13 cd13 ct13), sl13⟩) (c13 : PySem.W.codeIn K cd13 "_law_row" = true) (k13 : PySem.W.keepIn K (.ref f13) = true)
    (a14 : PySem.W.nsIn K mainGlobals "_law_parts" = some (some (.ref f14))) (l14 : K.lookup f14 = some ⟨oc14, od14, .func (PySem.W.fnOf "_law_parts" "_law_parts" (defArgs s_law_parts) (defBody s_law_parts) (defScope s_law_parts) .none kV14 dc14 pm14 an14 cd14 ct14), sl14⟩) (c14 : PySem.W.codeIn K cd14 "_law_parts" = true) (k14 : PySem.W.keepIn K (.ref f14) = true)
    (a15 : PySem.W.nsIn K mainGlobals "_law_some" = some (some (.ref f15))) (l15 : K.lookup f15 = some ⟨oc15, od15, .func (PySem.W.fnOf "_law_some" "_law_some" (defArgs s_law_some) (defBody s_law_some) (defScope s_law_some) .none kV15 dc15 pm15 an15 cd15 ct15), sl15⟩) (c15 : PySem.W.codeIn K cd15 "_law_some" = true) (k15 : PySem.W.keepIn K (.ref f15) = true)
    (a16 : PySem.W.nsIn K mainGlobals "_law_come" = some (some (.ref f16))) (l16 : K.lookup f16 = some ⟨oc16, od16, .func (PySem.W.fnOf "_law_come" "_law_come" (defArgs s_law_come) (defBody s_law_come) (defScope s_law_come) .none kV16 dc16 pm16 an16 cd16 ct16), sl16⟩) (c16 : PySem.W.codeIn K cd16 "_law_come" = true) (k16 : PySem.W.keepIn K (.ref f16) = true)
    (a17 : PySem.W.nsIn K mainGlobals "_law_whole" = some (some (.ref f17))) (l17 : K.lookup f17 = some ⟨oc17, od17, .func (PySem.W.fnOf "_law_whole" "_law_whole" (defArgs s_law_whole) (defBody s_law_whole) (defScope s_law_whole) .none kV17 dc17 pm17 an17 cd17 ct17), sl17⟩) (c17 : PySem.W.codeIn K cd17 "_law_whole" = true) (k17 : PySem.W.keepIn K (.ref f17) = true)
    (a18 : PySem.W.nsIn K mainGlobals "_law_bits" = some (some (.ref f18))) (l18 : K.lookup f18 = some ⟨oc18, od18, .func (PySem.W.fnOf "_law_bits" "_law_bits" (defArgs s_law_bits) (defBody s_law_bits) (defScope s_law_bits) .none kV18 dc18 pm18 an18 cd18 ct18), sl18⟩) (c18 : PySem.W.codeIn K cd18 "_law_bits" = true) (k18 : PySem.W.keepIn K (.ref f18) = true)
    (a19 : PySem.W.nsIn K mainGlobals "_law_group" = some (some (.ref f19))) (l19 : K.lookup f19 = some ⟨oc19, od19, .func (PySem.W.fnOf "_law_group" "_law_group" (defArgs s_law_group) (defBody s_law_group) (defScope s_law_group) .none kV19 dc19 pm19 an19 cd19 ct19), sl19⟩) (c19 : PySem.W.codeIn K cd19 "_law_group" = true) (k19 : PySem.W.keepIn K (.ref f19) = true)
    (a20 : PySem.W.nsIn K mainGlobals "law" = some (some (.ref f20))) (l20 : K.lookup f20 = some ⟨oc20, od20, .func (PySem.W.fnOf "law" "law" (defArgs s_law) (defBody s_law) (defScope s_law) .none kV20 dc20 pm20 an20 cd20 ct20), sl20⟩) (c20 : PySem.W.codeIn K cd20 "law" = true) (k20 : PySem.W.keepIn K (.ref f20) = true)
    (z0 : PySem.W.nsIn K mainGlobals "len" = some none)
    (z1 : PySem.W.nsIn K mainGlobals "range" = some none)
    (z2 : PySem.W.nsIn K mainGlobals "str" = some none)
    (z3 : PySem.W.nsIn K mainGlobals "tuple" = some none)
    (z4 : PySem.W.nsIn K mainGlobals "dict" = some none)
    (z5 : PySem.W.nsIn K mainGlobals "list" = some none)
    (z6 : PySem.W.nsIn K mainGlobals "reversed" = some none)
    (z7 : PySem.W.nsIn K mainGlobals "isinstance" = some none)
    (z8 : PySem.W.nsIn K mainGlobals "int" = some none)
    (z9 : PySem.W.nsIn K mainGlobals "bool" = some none)
    (z10 : PySem.W.nsIn K mainGlobals "min" = some none)
    (z11 : PySem.W.nsIn K mainGlobals "zip" = some none)
    (z12 : PySem.W.nsIn K mainGlobals "enumerate" = some none)
    (z13 : PySem.W.nsIn K mainGlobals "sum" = some none) :
    ∃ fd : FuncData, (∀ (s : Shared) (v : Value), BindsTo s fd ⟨[v], []⟩ [("_law_script", v)]) ∧ ∀ base : Heap, K.In base → base.Ns mainGlobals mg → FnOk l.prog w K mg base CX0 7 fa fd ["_law_script"] (spLaw K) := by
  have e := hfa.symm.trans (PySem.W.mg_of X G a20)
  cases e
  have T : Txt K mg := ⟨PySem.W.mg_none_of X G z0, PySem.W.mg_none_of X G z1, PySem.W.mg_none_of X G z2, PySem.W.mg_none_of X G z3, PySem.W.mg_none_of X G z4, PySem.W.mg_none_of X G z5, PySem.W.mg_none_of X G z6, PySem.W.mg_none_of X G z7, PySem.W.mg_none_of X G z8, PySem.W.mg_none_of X G z9, PySem.W.mg_none_of X G z10, PySem.W.mg_none_of X G z11, PySem.W.mg_none_of X G z12, PySem.W.mg_none_of X G z13, hasDef_mk X G a0 l0 c0 k0, hasDef_mk X G a1 l1 c1 k1, hasDef_mk X G a2 l2 c2 k2, hasDef_mk X G a3 l3 c3 k3, hasDef_mk X G a4 l4 c4 k4, hasDef_mk X G a5 l5 c5 k5, hasDef_mk X G a6 l6 c6 k6, hasDef_mk X G a7 l7 c7 k7, hasDef_mk X G a8 l8 c8 k8, hasDef_mk X G a9 l9 c9 k9, hasDef_mk X G a10 l10 c10 k10, hasDef_mk X G a11 l11 c11 k11, hasDef_mk X G a12 l12 c12 k12, hasDef_mk X G a13 l13 c13 k13, hasDef_mk X G a14 l14 c14 k14, hasDef_mk X G a15 l15 c15 k15, hasDef_mk X G a16 l16 c16 k16, hasDef_mk X G a17 l17 c17 k17, hasDef_mk X G a18 l18 c18 k18, hasDef_mk X G a19 l19 c19 k19⟩
  exact ⟨_, fun s v => .of_eq rfl, fun base _ _ => law_fn (fun_mk (st := s_law) l20 c20 k20) T⟩
theorem walk {l : PySem.W.OpenLaw} {q : Program} {loose : List Str} {XP : (Str → Option Value) → Heap → Prop} {YP : World → Heap → Prop} {d : DefRec} {K : Params → PySem.W.Frag} (hn : l.most = some 63) (hdf : d.params.defaults = [])
    (hY : ∀ (w : World) (h : Heap), YP w h → (K w.params).In h)
    (F : ∀ (w : World) (mg : Str → Option Value) (fa : Addr) (h : Heap), (K w.params).In h → h.Ns mainGlobals mg → mg d.name = some (.ref fa) →
      ∃ fd : FuncData, (∀ (s : Shared) (u : Value), BindsTo s fd ⟨[u], []⟩ [("_law_script", u)]) ∧ ∀ base : Heap, (K w.params).In base → base.Ns mainGlobals mg → FnOk l.prog w (K w.params) mg base CX0 7 fa fd ["_law_script"] (spLaw (K w.params))) :
    PySem.W.WalkO q loose XP YP l.row.toRowW d [] (fun f vs => PySem.call f vs) :=
  L2.walk_of (n := 63) (k := 7) (x := "_law_script") (CX := fun _ => CX0) (sp := fun w => spLaw (K w.params)) hn (by decide) hdf ⟨rfl, by decide, by decide⟩ hY F (fun _ _ a ns hl _ hS => ⟨a, ns, rfl, hS, hl, fun _ => rfl⟩) fun _ _ _ _ _ z => z
end K52
open PySem PySem.W PyProof.Rows
set_option maxRecDepth 100000 in
set_option maxHeartbeats 0 in
theorem PySem.Challenge.cw_bundlehouse_k52_groups_by_colours_holds : PySem.Challenge.rw_bundlehouse_k52_groups_by_colours.Holds := by
  w_on; o_law; k_head; (case hw => w_witness2)
  k_fill
  refine K52.walk (l := PySem.Challenge.rw_bundlehouse_k52_groups_by_colours) rfl rfl (fun w h Y => PySem.W.kIn_of Y) ?F
  case F =>
    intro w mg fa h KX G hmg
    refine' K52.all_mk KX G hmg ?a0 ?l0 ?c0 ?k0 ?a1 ?l1 ?c1 ?k1 ?a2 ?l2 ?c2 ?k2 ?a3 ?l3 ?c3 ?k3 ?a4 ?l4 ?c4 ?k4 ?a5 ?l5 ?c5 ?k5 ?a6 ?l6 ?c6 ?k6 ?a7 ?l7 ?c7 ?k7 ?a8 ?l8 ?c8 ?k8 ?a9 ?l9 ?c9 ?k9 ?a10 ?l10 ?c10 ?k10 ?a11 ?l11 ?c11 ?k11 ?a12 ?l12 ?c12 ?k12 ?a13 ?l13 ?c13 ?k13 ?a14 ?l14 ?c14 ?k14 ?a15 ?l15 ?c15 ?k15 ?a16 ?l16 ?c16 ?k16 ?a17 ?l17 ?c17 ?k17 ?a18 ?l18 ?c18 ?k18 ?a19 ?l19 ?c19 ?k19 ?a20 ?l20 ?c20 ?k20 ?z0 ?z1 ?z2 ?z3 ?z4 ?z5 ?z6 ?z7 ?z8 ?z9 ?z10 ?z11 ?z12 ?z13
    (case a0 => k_is); (case l0 => k_is); (case c0 => k_is); (case k0 => k_is)
    (case a1 => k_is); (case l1 => k_is); (case c1 => k_is); (case k1 => k_is)
    (case a2 => k_is); (case l2 => k_is); (case c2 => k_is); (case k2 => k_is)
    (case a3 => k_is); (case l3 => k_is); (case c3 => k_is); (case k3 => k_is)
    (case a4 => k_is); (case l4 => k_is); (case c4 => k_is); (case k4 => k_is)
    (case a5 => k_is); (case l5 => k_is); (case c5 => k_is); (case k5 => k_is)
    (case a6 => k_is); (case l6 => k_is); (case c6 => k_is); (case k6 => k_is)
    (case a7 => k_is); (case l7 => k_is); (case c7 => k_is); (case k7 => k_is)
    (case a8 => k_is); (case l8 => k_is); (case c8 => k_is); (case k8 => k_is)
    (case a9 => k_is); (case l9 => k_is); (case c9 => k_is); (case k9 => k_is)
    (case a10 => k_is); (case l10 => k_is); (case c10 => k_is); (case k10 => k_is)
    (case a11 => k_is); (case l11 => k_is); (case c11 => k_is); (case k11 => k_is)
    (case a12 => k_is); (case l12 => k_is); (case c12 => k_is); (case k12 => k_is)
    (case a13 => k_is); (case l13 => k_is); (case c13 => k_is); (case k13 => k_is)
    (case a14 => k_is); (case l14 => k_is); (case c14 => k_is); (case k14 => k_is)
    (case a15 => k_is); (case l15 => k_is); (case c15 => k_is); (case k15 => k_is)
    (case a16 => k_is); (case l16 => k_is); (case c16 => k_is); (case k16 => k_is)
    (case a17 => k_is); (case l17 => k_is); (case c17 => k_is); (case k17 => k_is)
    (case a18 => k_is); (case l18 => k_is); (case c18 => k_is); (case k18 => k_is)
    (case a19 => k_is); (case l19 => k_is); (case c19 => k_is); (case k19 => k_is)
    (case a20 => k_is); (case l20 => k_is); (case c20 => k_is); (case k20 => k_is)
    (case z0 => k_is); (case z1 => k_is); (case z2 => k_is); (case z3 => k_is); (case z4 => k_is); (case z5 => k_is); (case z6 => k_is); (case z7 => k_is); (case z8 => k_is); (case z9 => k_is); (case z10 => k_is); (case z11 => k_is); (case z12 => k_is); (case z13 => k_is)