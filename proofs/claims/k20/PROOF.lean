import PyProof.Rows.All
import Wide.All
import OpenK.AllK
import Wide.FinOn
import Lean
import PyProof.EqAt
import PyProof.EqKinds
import PyProof.TupleCall
import PySem.Challenge.RW_bundlehouse_k20_taken_and_said
set_option Elab.async false
set_option genSizeOfSpec false
set_option linter.all false
set_option maxRecDepth 100000
namespace L2
open PySem PySem.Spec PyProof.Rows
noncomputable abbrev Key := Sum Int Str
noncomputable def keyIs : Key → Value → Bool
  | .inl k, v => Value.isInt k v
  | .inr x, v => Value.isStrOf x v
noncomputable def keyH (w : World) : Key → Int
  | .inl k => hashInt k
  | .inr x => hashStr w x
theorem keyIs_shape : ∀ {k : Key} {v : Value}, keyIs k v = true → (∃ i t, k = Sum.inl i ∧ v = Value.int i t) ∨ (∃ x t, k = Sum.inr x ∧ v = Value.str x t)
  | .inl i, v, h => by
    obtain ⟨t, e⟩ := Value.isInt_shape (k := i) (v := v) h
    exact .inl ⟨i, t, rfl, e⟩
  | .inr x, v, h => by
    obtain ⟨t, e⟩ := Value.isStrOf_shape (x := x) (v := v) h
    exact .inr ⟨x, t, rfl, e⟩
theorem keyIs_int (i : Int) (t : Tok) : keyIs (.inl i) (.int i t) = true := by simp [keyIs, Value.isInt]
theorem keyIs_str (x : Str) (t : Tok) : keyIs (.inr x) (.str x t) = true := by simp [keyIs, Value.isStrOf]
theorem key_ll (a b : Int) : decide ((Sum.inl a : Key) = Sum.inl b) = (a == b) := by
  by_cases e : a = b
  · subst e; simp
  · have h : ¬ (Sum.inl a : Key) = Sum.inl b := fun q => e (Sum.inl.inj q)
    rw [decide_eq_false h]
    exact (beq_eq_false_iff_ne.mpr e).symm
theorem key_rr (a b : Str) : decide ((Sum.inr a : Key) = Sum.inr b) = decide (a = b) := by
  by_cases e : a = b
  · subst e; simp
  · have h : ¬ (Sum.inr a : Key) = Sum.inr b := fun q => e (Sum.inr.inj q)
    rw [decide_eq_false h, decide_eq_false e]
theorem key_lr (a : Int) (b : Str) : decide ((Sum.inl a : Key) = Sum.inr b) = false := decide_eq_false (fun q => nomatch q)
theorem key_rl (a : Str) (b : Int) : decide ((Sum.inr a : Key) = Sum.inl b) = false := decide_eq_false (fun q => nomatch q)
noncomputable def mixKind (prog : Program) (w : World) : PySem.KeyKind prog w Key where
  is := keyIs
  hash := keyH w
  inj := fun v a b ha hb => by
    rcases keyIs_shape ha with ⟨i, t, rfl, rfl⟩ | ⟨x, t, rfl, rfl⟩
    · rcases keyIs_shape hb with ⟨j, u, rfl, e⟩ | ⟨y, u, rfl, e⟩
      · injection e with e1 _; rw [e1]
      · exact nomatch e
    · rcases keyIs_shape hb with ⟨j, u, rfl, e⟩ | ⟨y, u, rfl, e⟩
      · exact nomatch e
      · injection e with e1 _; rw [e1]
  byValue := fun k v h => by
    rcases keyIs_shape h with ⟨i, t, rfl, rfl⟩ | ⟨x, t, rfl, rfl⟩ <;> rfl
  pyHash := fun hv h => by
    rcases keyIs_shape hv with ⟨i, t, rfl, rfl⟩ | ⟨x, t, rfl, rfl⟩
    · exact wpAny_pyHash_int h
    · exact wpAny_pyHash_str h
  eqBool := fun hu hv h => by
    rcases keyIs_shape hu with ⟨i, t, rfl, rfl⟩ | ⟨x, t, rfl, rfl⟩
    · rcases keyIs_shape hv with ⟨j, u, rfl, rfl⟩ | ⟨y, u, rfl, rfl⟩
      · rw [key_ll] at h; exact wpAny_eqBool_int h
      · rw [key_lr] at h; exact SeqAt.EqAt.int_str i t y u _ _ _ _ h
    · rcases keyIs_shape hv with ⟨j, u, rfl, rfl⟩ | ⟨y, u, rfl, rfl⟩
      · rw [key_rl] at h; exact SeqAt.EqAt.str_int x t j u _ _ _ _ h
      · rw [key_rr] at h; exact wpAny_eqBool_str h
  «strs» := fun k x t v h => by
    rcases keyIs_shape h with ⟨i, u, rfl, e⟩ | ⟨y, u, rfl, e⟩
    · exact nomatch e
    · injection e with e1 _
      subst e1
      cases v <;> rfl
theorem mixKind_int (prog : Program) (w : World) (i : Int) (t : Tok) : (mixKind prog w).is (.inl i) (.int i t) = true := keyIs_int i t
theorem mixKind_str (prog : Program) (w : World) (x : Str) (t : Tok) : (mixKind prog w).is (.inr x) (.str x t) = true := keyIs_str x t
end L2
namespace L2
open PySem PySem.Spec PyProof.Rows
inductive V where
  | non | bl (b : Bool) | int (i : Int) | str (x : Str) | byt (b : Array UInt8) | flt (b : UInt64) | ref (a : Addr) | ty (n : String)
  deriving DecidableEq
noncomputable def RelV : V → Value → Prop
  | .non, u => u = Value.none
  | .bl b, u => u = Value.bool b
  | .int i, u => ∃ t, u = Value.int i t
  | .str x, u => ∃ t, u = Value.str x t
  | .byt b, u => ∃ t, u = Value.bytes b t
  | .flt b, u => ∃ t, u = Value.float b t
  | .ref a, u => u = Value.ref a
  | .ty n, u => u = Value.type n
noncomputable abbrev Vals : List V → List Value → Prop := Paired RelV
theorem Vals.length {xs : List V} {us : List Value} (r : Vals xs us) : xs.length = us.length := Paired.length r
theorem Vals.get : ∀ {xs : List V} {us : List Value} {i : Nat} {x : V}, Vals xs us → xs[i]? = some x → ∃ u, us[i]? = some u ∧ RelV x u
  | _, _, _, _, .nil, e => by simp at e
  | _, _, 0, _, .cons r _, e => by simp at e; subst e; exact ⟨_, rfl, r⟩
  | _, _, i + 1, x, .cons _ t, e => by
    obtain ⟨u, h1, h2⟩ := Vals.get (i := i) (x := x) t (by simpa using e)
    exact ⟨u, by simpa using h1, h2⟩
theorem Vals.append : ∀ {xs ys : List V} {us ws : List Value}, Vals xs us → Vals ys ws → Vals (xs ++ ys) (us ++ ws) := by
  intro xs ys us ws h s
  induction h with
  | nil => exact s
  | cons r t ih => exact .cons r ih
theorem Vals.take : ∀ {xs : List V} {us : List Value} (n : Nat), Vals xs us → Vals (xs.take n) (us.take n)
  | _, _, 0, _ => .nil
  | _, _, _ + 1, .nil => .nil
  | _, _, n + 1, .cons r t => .cons r (Vals.take n t)
theorem Vals.drop : ∀ {xs : List V} {us : List Value} (n : Nat), Vals xs us → Vals (xs.drop n) (us.drop n)
  | _, _, 0, r => r
  | _, _, _ + 1, .nil => .nil
  | _, _, n + 1, .cons _ t => Vals.drop n t
noncomputable def RelO : Option V → Option Value → Prop
  | some v, some u => RelV v u
  | none, none => True
  | _, _ => False
noncomputable def KV {κ : Type} : List (κ × V) → List (κ × Value) → Prop := Paired fun (p : κ × V) (q : κ × Value) => p.1 = q.1 ∧ RelV p.2 q.2
noncomputable def kV : Key → V
  | .inl i => .int i
  | .inr x => .str x
inductive HO where
  | lst (xs : List V)
  | tup (xs : List V)
  | dK (kvs : List (Key × V)) | dT (kvs : List (List Key × V))
  | set (S : Int → Bool) (n : Nat)
  | ins (C dx : Addr) (fs : List (Str × V))
  | own (x : Addr)
  | xd (fs : List (Str × V))
  | met (f x : Addr)
  | rng (lo hi : Int)
  | frz (o : Obj) (u : HO)
  | tbl (ps : Array Value)
  | ext (φ : Heap → Prop)
noncomputable abbrev Hp := Addr → Option HO
noncomputable def upd (H : Hp) (a : Addr) (o : HO) : Hp := fun b => if b = a then some o else H b
theorem upd_same {H : Hp} {a : Addr} {o : HO} : upd H a o a = some o := by unfold upd; rw [if_pos rfl]
theorem upd_ne {H : Hp} {a b : Addr} {o : HO} (h : b ≠ a) : upd H a o b = H b := by unfold upd; rw [if_neg h]
theorem upd_upd {H : Hp} {a : Addr} {o u : HO} : upd (upd H a o) a u = upd H a u := by
  funext b; unfold upd; split <;> rfl
theorem ne_of {H : Hp} {a b : Addr} {o u : HO} (h : H a = some o) (h' : H b = some u) (d : o ≠ u) : a ≠ b := by
  intro e; subst e; rw [h] at h'; exact d (Option.some.inj h')
theorem ne_of_none {H : Hp} {a b : Addr} {o : HO} (h : H a = some o) (h' : H b = none) : a ≠ b := by
  intro e; subst e; rw [h] at h'; cases h'
section
variable (P : Program) (w : World)
noncomputable def ObjOk (H : Hp) (h : Heap) (a : Addr) : HO → Prop
  | .lst xs => xs.length ≤ sizeLine ∧ ∃ (its : List Value) (n : Nat), Vals xs its ∧ h.get? a = some { cls := .type "list", data := .seq its.toArray n }
  | .tup xs => xs.length ≤ sizeLine ∧ ∃ its : List Value, Vals xs its ∧ IsTup h a its.toArray
  | .dK kvs => kvs.length ≤ sizeLine ∧ (a == sysModules) = false ∧ ∃ vs, KV kvs vs ∧ h.DictOf (mixKind P w) a vs
  | .dT kvs => kvs.length ≤ sizeLine ∧ (a == sysModules) = false ∧ ∃ xs : List (List Key × Addr × Value),
      Paired (fun (p : List Key × V) (q : List Key × Addr × Value) => p.1 = q.1 ∧ H q.2.1 = some (.tup (p.1.map kV)) ∧ RelV p.2 q.2.2) kvs xs ∧
      ∃ o es ep, h.get? a = some o ∧ o.ExactDict ∧ o.data = .dict es ep ∧ es.toList = xs.map (entryOfKey (tupleKind (mixKind P w))) ∧ (xs.map (·.1)).Nodup
  | .set S n => h.SetOf (intKind P w) a S n
  | .ins C dx fs => H dx = some (.own a) ∧ fs.length ≤ 1000 ∧ dx ≠ a ∧ h.get? a = some (PySem.W.instObj C dx) ∧
      ∃ mA, h.Ns1 dx mA ∧ (∀ f, RelO (fs.lookup f) (mA f)) ∧ PySem.Within mA (fs.map (·.1))
  | .own _ => ∃ o, h.get? a = some o
  | .xd fs => ∃ mA, h.Ns1 a mA ∧ ∀ f, RelO (fs.lookup f) (mA f)
  | .rng lo hi => ∃ t u v, h.get? a = some { cls := .type "range", data := .fields #[.int lo t, .int hi u, .int 1 v] }
  | .frz o u => h.get? a = some o ∧ ObjOk H h a u
  | .tbl ps => h.get? a = some { cls := .none, data := .fields ps }
  | .met f x => h.get? a = some (PySem.W.methodObj (.ref f) (.ref x))
  | .ext φ => φ h ∧ (∃ o, h.get? a = some o) ∧ ∀ h1 h2 : Heap, φ h1 → (∀ o, h1.get? a = some o → h2.get? a = some o) → φ h2
noncomputable def HOk (H : Hp) (h : Heap) : Prop := ∀ a o, H a = some o → ObjOk P w H h a o
end
section
variable {P : Program} {w : World} {H H' : Hp} {h h' : Heap} {a : Addr} {o : HO}
theorem ObjOk.lt (x : ObjOk P w H h a o) : a < h.objs.size := by
  cases o with
  | lst xs => obtain ⟨_, _, _, _, e⟩ := x; exact Heap.lt_size e
  | tup xs => obtain ⟨_, _, _, p⟩ := x; exact p.lt
  | dK kvs => obtain ⟨_, _, _, _, o, _, _, e, _⟩ := x; exact Heap.lt_size e
  | dT kvs => obtain ⟨_, _, _, _, o, _, _, e, _⟩ := x; exact Heap.lt_size e
  | set S n => obtain ⟨o, _, _, _, e, _⟩ := x; exact Heap.lt_size e
  | ins C dx fs => obtain ⟨_, _, _, e, _⟩ := x; exact Heap.lt_size e
  | own y => obtain ⟨_, e⟩ := x; exact Heap.lt_size e
  | xd fs => obtain ⟨_, ⟨_, _, _, e, _⟩, _⟩ := x; exact Heap.lt_size e
  | rng lo hi => obtain ⟨_, _, _, e⟩ := x; exact Heap.lt_size e
  | frz ob u => obtain ⟨e, _⟩ := x; exact Heap.lt_size e
  | tbl ps => exact Heap.lt_size (show h.get? a = some _ from x)
  | met f y => exact Heap.lt_size (show h.get? a = some _ from x)
  | ext φ => obtain ⟨_, ⟨_, e⟩, _⟩ := x; exact Heap.lt_size e
theorem Paired.mapP {α β : Type} {F G : α → β → Prop} : ∀ {l₁ : List α} {l₂ : List β}, Paired F l₁ l₂ → (∀ a b, F a b → G a b) → Paired G l₁ l₂ := by
  intro l₁ l₂ h f
  induction h with
  | nil => exact .nil
  | cons r t ih => exact .cons (f _ _ r) ih
theorem ObjOk.stay (x : ObjOk P w H h a o) (k : ∀ b u, (b = a ∨ H b = some (.own a)) → h.get? b = some u → h'.get? b = some u)
    (ho : ∀ b, H b = some (.own a) → H' b = some (.own a)) (ht : ∀ b xs, H b = some (.tup xs) → H' b = some (.tup xs)) : ObjOk P w H' h' a o := by
  induction o with
  | lst xs => obtain ⟨z, its, n, r, e⟩ := x; exact ⟨z, its, n, r, k _ _ (.inl rfl) e⟩
  | tup xs => obtain ⟨z, its, r, ob, e, c⟩ := x; exact ⟨z, its, r, ob, k _ _ (.inl rfl) e, c⟩
  | dK kvs => obtain ⟨z, y, vs, r, ob, es, ep, e, c⟩ := x; exact ⟨z, y, vs, r, ob, es, ep, k _ _ (.inl rfl) e, c⟩
  | dT kvs =>
    obtain ⟨z, y, xs, r, ob, es, ep, e, c⟩ := x
    exact ⟨z, y, xs, Paired.mapP r fun p q z => ⟨z.1, ht _ _ z.2.1, z.2.2⟩, ob, es, ep, k _ _ (.inl rfl) e, c⟩
  | set S n => obtain ⟨ob, es, ep, t, e, c⟩ := x; exact ⟨ob, es, ep, t, k _ _ (.inl rfl) e, c⟩
  | ins C dx fs =>
    obtain ⟨d, z, ne, e, mA, ⟨od, es, ep, e2, c⟩, r⟩ := x
    exact ⟨ho _ d, z, ne, k _ _ (.inl rfl) e, mA, ⟨od, es, ep, k _ _ (.inr d) e2, c⟩, r⟩
  | own y => obtain ⟨ob, e⟩ := x; exact ⟨ob, k _ _ (.inl rfl) e⟩
  | xd fs => obtain ⟨mA, ⟨od, es, ep, e, c⟩, r⟩ := x; exact ⟨mA, ⟨od, es, ep, k _ _ (.inl rfl) e, c⟩, r⟩
  | rng lo hi => obtain ⟨t, u, v, e⟩ := x; exact ⟨t, u, v, k _ _ (.inl rfl) e⟩
  | frz ob u ih => obtain ⟨e, q⟩ := x; exact ⟨k _ _ (.inl rfl) e, ih q⟩
  | tbl ps =>
    have e : h.get? a = some { cls := .none, data := .fields ps } := x
    show h'.get? a = some { cls := .none, data := .fields ps }
    exact k a _ (.inl rfl) e
  | met f y =>
    have e : h.get? a = some (PySem.W.methodObj (.ref f) (.ref y)) := x
    show h'.get? a = some (PySem.W.methodObj (.ref f) (.ref y))
    exact k a _ (.inl rfl) e
  | ext φ => obtain ⟨p, ⟨o, e⟩, st⟩ := x; exact ⟨st _ _ p fun o q => k _ _ (.inl rfl) q, ⟨o, k _ _ (.inl rfl) e⟩, st⟩
theorem HOk.lt (x : HOk P w H h) (e : H a = some o) : a < h.objs.size := (x a o e).lt
theorem HOk.fresh (x : HOk P w H h) (e : h.objs.size ≤ a) : H a = none := by
  cases q : H a with
  | none => rfl
  | some u => exact absurd (Nat.lt_of_lt_of_le (x.lt q) e) (Nat.lt_irrefl _)
theorem HOk.kept (x : HOk P w H h) (k : ∀ b u, h.get? b = some u → h'.get? b = some u) : HOk P w H h' := fun a o e =>
  (x a o e).stay (fun b u _ q => k b u q) (fun _ q => q) fun _ _ q => q
theorem HOk.laid (x : HOk P w H h) (k : ∀ b u, h.get? b = some u → h'.get? b = some u) (hp : h.objs.size ≤ a) (new : ObjOk P w (upd H a o) h' a o) : HOk P w (upd H a o) h' := fun b u e => by
  have hn := x.fresh hp
  by_cases hb : b = a
  · subst hb; rw [upd_same] at e; cases e; exact new
  · rw [upd_ne hb] at e
    exact (x b u e).stay (fun c v _ q => k c v q) (fun c q => by rw [upd_ne (ne_of_none q hn)]; exact q) fun c xs q => by rw [upd_ne (ne_of_none q hn)]; exact q
end
noncomputable def Rd (H : Hp) (a : Addr) (u : HO) : Prop := H a = some u ∨ ∃ o, H a = some (.frz o u)
theorem Rd.ok {P : Program} {w : World} {H : Hp} {h : Heap} {a : Addr} {u : HO} (r : Rd H a u) (x : HOk P w H h) : ObjOk P w H h a u := by
  rcases r with r | ⟨o, r⟩
  · exact x a u r
  · obtain ⟨_, q⟩ := x a _ r
    exact q
noncomputable def Mut : Option HO → Prop
  | some (.lst _) => True
  | some (.dK _) => True
  | some (.dT _) => True
  | some (.set _ _) => True
  | some (.ins _ _ _) => True
  | some (.ext _) => True
  | _ => False
section
variable {P : Program} {w : World} {H : Hp} {h h' : Heap} {x e : Addr} {o' : HO}
theorem HOk.write (ok : HOk P w H h) (mu : Mut (H x)) (he : e = x ∨ H e = some (.own x)) (k : ∀ b u, b ≠ e → h.get? b = some u → h'.get? b = some u) (heo : ∃ u, h'.get? e = some u)
    (new : ObjOk P w (upd H x o') h' x o') : HOk P w (upd H x o') h' := fun b u q => by
  have nown : ∀ c y, H c = some (.own y) → c ≠ x := fun c y r z => by subst z; rw [r] at mu; exact mu
  have ntup : ∀ c xs, H c = some (.tup xs) → c ≠ x := fun c xs r z => by subst z; rw [r] at mu; exact mu
  by_cases hb : b = x
  · subst hb; rw [upd_same] at q; cases q; exact new
  · rw [upd_ne hb] at q
    by_cases hbe : b = e
    · have q' : H b = some (.own x) := by
        rcases he with z | z
        · exact absurd (hbe.trans z) hb
        · rw [hbe]; exact z
      rw [q] at q'; cases q'
      obtain ⟨v, hv⟩ := heo
      exact ⟨v, by rw [hbe]; exact hv⟩
    · refine (ok b u q).stay (fun c v hc r => k c v ?_ r) (fun c r => by rw [upd_ne (nown c b r)]; exact r) fun c xs r => by rw [upd_ne (ntup c xs r)]; exact r
      rcases hc with rfl | hc
      · exact hbe
      · rintro rfl
        rcases he with z | z
        · exact nown c b hc z
        · rw [hc] at z; cases z; exact hb rfl
end
set_option genInjectivity false in
structure Un (fs ex : List Addr) (H H' : Hp) (h h' : Heap) : Prop where
  keep : ∀ b o, h.get? b = some o → H b = none → b ∉ fs → b ∉ ex → h'.get? b = some o
  slot : ∀ b o, h.get? b = some o → H b = none → b ∈ fs → b ∉ ex → ∃ sl, h'.get? b = some { o with slots := sl }
  free : ∀ b o, h.get? b = some o → H b = none → b ∉ ex → H' b = none
  there : ∀ b o, h.get? b = some o → b ∉ ex → ∃ o', h'.get? b = some o'
  tups : ∀ b xs, H b = some (.tup xs) → H' b = some (.tup xs)
  frzs : ∀ b o u, H b = some (.frz o u) → H' b = some (.frz o u)
  tbls : ∀ b ps, H b = some (.tbl ps) → ∃ more, H' b = some (.tbl (ps ++ more))
section
variable {fs fs' ex ex' : List Addr} {H H1 H2 : Hp} {h h1 h2 h' : Heap} {a x e : Addr} {o : HO}
theorem Un.any (u : Un fs ex H H1 h h1) {b : Addr} {ob : Obj} (q : h.get? b = some ob) (n : H b = none) (hx : b ∉ ex) : ∃ sl, h1.get? b = some { ob with slots := sl } := by
  by_cases hb : b ∈ fs
  · exact u.slot b ob q n hb hx
  · exact ⟨ob.slots, u.keep b ob q n hb hx⟩
theorem Un.kept (k : ∀ b u, h.get? b = some u → h'.get? b = some u) : Un fs ex H H h h' :=
  ⟨fun b ob q _ _ _ => k b ob q, fun b ob q _ _ _ => ⟨ob.slots, k b ob q⟩, fun _ _ _ n _ => n, fun b ob q _ => ⟨ob, k b ob q⟩, fun _ _ q => q, fun _ _ _ q => q, fun _ ps q => ⟨#[], by rw [q]; simp⟩⟩
theorem Un.refl : Un fs ex H H h h := Un.kept fun _ _ q => q
theorem Un.laid (k : ∀ b u, h.get? b = some u → h'.get? b = some u) (hp : h.objs.size ≤ a) (hn : H a = none) : Un fs ex H (upd H a o) h h' where
  keep := fun b u q _ _ _ => k b u q
  slot := fun b u q _ _ _ => ⟨u.slots, k b u q⟩
  free := fun b u q n _ => by rw [upd_ne (Nat.ne_of_lt (Nat.lt_of_lt_of_le (Heap.lt_size q) hp))]; exact n
  there := fun b u q _ => ⟨u, k b u q⟩
  tups := fun b xs q => by rw [upd_ne (ne_of_none q hn)]; exact q
  frzs := fun b u xs q => by rw [upd_ne (ne_of_none q hn)]; exact q
  tbls := fun b ps q => ⟨#[], by rw [upd_ne (ne_of_none q hn), q]; simp⟩
theorem Un.write (mu : Mut (H x)) (he : e = x ∨ H e = some (.own x)) (k : ∀ b u, b ≠ e → h.get? b = some u → h'.get? b = some u) (heo : ∃ u, h'.get? e = some u) : Un fs ex H (upd H x o) h h' := by
  have hx : ∀ b, H b = none → b ≠ x := fun b n z => by subst z; rw [n] at mu; exact mu
  have hb : ∀ b, H b = none → b ≠ e := fun b n z => by
    subst z
    rcases he with r | r
    · exact hx b n r
    · rw [n] at r; cases r
  have hm : ∀ b u, H b = some u → ¬ Mut (some u) → b ≠ x := fun b u q nm z => by subst z; rw [q] at mu; exact nm mu
  refine ⟨fun b u q n _ _ => k b u (hb b n) q, fun b u q n _ _ => ⟨u.slots, k b u (hb b n) q⟩, fun b u q n _ => by rw [upd_ne (hx b n)]; exact n, fun b u q _ => ?_,
    fun b xs q => by rw [upd_ne (hm b _ q fun z => z)]; exact q, fun b u xs q => by rw [upd_ne (hm b _ q fun z => z)]; exact q, fun b ps q => ⟨#[], by rw [upd_ne (hm b _ q fun z => z), q]; simp⟩⟩
  by_cases hbe : b = e
  · subst hbe; exact heo
  · exact ⟨u, k b u hbe q⟩
end
noncomputable def trk (h : Heap) (H : Hp) : List Addr := (List.range h.objs.size).filter fun a => (H a).isSome
noncomputable def hidT (h : Heap) (H : Hp) : Heap := PySem.W.hideAll h (trk h H)
theorem hidT_size (h : Heap) (H : Hp) : (hidT h H).objs.size = h.objs.size := PySem.W.hideAll_size _ _
theorem hidT_get {h : Heap} {H : Hp} {b : Addr} {o : Obj} (e : h.get? b = some o) (n : H b = none) : (hidT h H).get? b = some o :=
  PySem.W.hideAll_get _ e fun hm => by
    have q : (H b).isSome = true := (List.mem_filter.mp hm).2
    rw [n] at q; simp at q
theorem of_hidT {h : Heap} {H : Hp} {b : Addr} {o : Obj} (e : (hidT h H).get? b = some o) : h.get? b = some o ∧ H b = none := by
  have e' : h.get? b = some o := PySem.W.of_hideAll (trk h H) e
  refine ⟨e', ?_⟩
  cases q : H b with
  | none => rfl
  | some x =>
    have hm : b ∈ trk h H := List.mem_filter.mpr ⟨List.mem_range.mpr (Heap.lt_size e'), by simp [q]⟩
    have z : (hidT h H).get? b = none := PySem.W.hideAll_none (trk h H) hm
    rw [z] at e; cases e
end L2
namespace L2
open PySem PySem.Spec PyProof.Rows
set_option genInjectivity false in
structure Mod (K : PySem.W.Frag) (mg : Str → Option Value) (base : Heap) : Prop where
  kin : K.In base
  glob : base.Ns mainGlobals mg
  blt : ∃ mb, base.Ns builtinsNs mb ∧ ∀ x : Str, x ≠ "__name__" → mb x = bootBuiltins x
  nolimit : base.NoLimit
set_option genInjectivity false in
structure Cx where
  prog : Program
  w : World
  K : PySem.W.Frag
  mg : Str → Option Value
  base : Heap
  A : Around
  N : List Str
  s₀ : Shared
  H₀ : Hp
  env : Env
  outer : List Env
  stack : List Env
  ex : List Addr
  fn : Str → Bool
  calm : Bool
  pn : List (Addr × Obj)
  xe : Value → Shared → Prop
noncomputable def frs (l : List Env) : List Addr := l.filterMap (·.frame)
noncomputable abbrev Cx.fs (X : Cx) : List Addr := frs X.outer
noncomputable def Vis (sc : Scope) (x : Str) : Prop := sc.names.lookup x = some .local ∨ sc.names.lookup x = some .cell ∨ sc.names.lookup x = some .free
noncomputable def Loc (sc : Scope) (x : Str) : Prop := sc.names.lookup x = some .local ∨ sc.names.lookup x = some .cell
noncomputable def Look (env : Env) (h : Heap) (m : Str → Option Value) (x : Str) (u : Value) : Prop :=
  (env.kindOf x = some .local ∧ m x = some u) ∨ ((env.kindOf x = some .cell ∨ env.kindOf x = some .free) ∧ ∃ c, env.cells.lookup x = some c ∧ h.IsCell c (some u))
set_option genInjectivity false in
structure Cx.Ok (X : Cx) : Prop where
  mod : Mod X.K X.mg X.base
  kind : X.env.scope.kind = .function
  glob : X.env.globals = mainGlobals
  blt : X.env.builtins = builtinsNs
  above : X.s₀.heap.objs.size ≤ X.env.locals
  inj : ∀ x y c, X.env.cells.lookup x = some c → X.env.cells.lookup y = some c → x = y
  has : ∀ x, (X.env.kindOf x = some .cell ∨ X.env.kindOf x = some .free) → ∃ c, X.env.cells.lookup x = some c
  cab : ∀ x c, X.fn x = true → X.env.cells.lookup x = some c → X.s₀.heap.objs.size ≤ c
  hd : X.calm = true → X.A.handled = none
  frames : X.A.frames = some X.stack
  stk : X.stack = X.outer ∨ (X.stack = X.env :: X.outer ∧ X.env.frame = some X.env.locals)
  exf : ∀ b ∈ X.ex, b ≠ X.env.locals ∧ ∀ x c, X.env.cells.lookup x = some c → c ≠ b
  bs : ∀ b o, X.base.get? b = some o → X.s₀.heap.get? b = some o ∧ X.H₀ b = none
  bsz : X.base.objs.size ≤ X.s₀.heap.objs.size
  noex : ∀ b o, X.base.get? b = some o → b ∉ X.ex
  exfs : ∀ b ∈ X.ex, b ∉ X.fs
  funs : X.s₀.heap.FunFrames X.base X.outer
  frf : ∀ b ∈ X.fs, X.H₀ b = none
set_option genInjectivity false in
structure Inv (X : Cx) (pins : List (Addr × Obj)) (σ : List (Option V)) (H : Hp) (s : Shared) : Prop where
  ok : X.Ok
  os : s.os = X.s₀.os
  bare : AllBare s.gens
  base : Un X.fs X.ex X.H₀ H X.s₀.heap s.heap
  loc : ∃ m, s.heap.Ns X.env.locals m ∧ ∀ (i : Nat) (x : Str) (v : V), X.N[i]? = some x → σ[i]? = some (some v) → Vis X.env.scope x → ∃ u, RelV v u ∧ Look X.env s.heap m x u
  cell : ∀ x c, X.env.cells.lookup x = some c → ∃ v, s.heap.IsCell c v
  free : H X.env.locals = none
  freeC : ∀ x c, X.env.cells.lookup x = some c → H c = none
  pin : ∀ p ∈ X.pn ++ pins, s.heap.get? p.1 = some p.2 ∧ H p.1 = none ∧ p.1 ≠ X.env.locals ∧ p.1 ∉ X.fs ∧ ∀ v, p.2.data ≠ .cell v
  hok : HOk X.prog X.w H s.heap
  len : σ.length = X.N.length
section
variable {X : Cx} {pins : List (Addr × Obj)} {σ : List (Option V)} {H H' : Hp} {s : Shared} {h' : Heap}
theorem Cx.Ok.nofr (ok : X.Ok) {b : Addr} {o : Obj} (e : X.base.get? b = some o) : b ∉ X.fs := fun hb => by
  have := (ok.funs.mem hb).1
  rw [e] at this; cases this
theorem Inv.bs (I : Inv X pins σ H s) : ∀ b o, X.base.get? b = some o → s.heap.get? b = some o ∧ H b = none := fun b o e =>
  ⟨I.base.keep b o (I.ok.bs b o e).1 (I.ok.bs b o e).2 (I.ok.nofr e) (I.ok.noex b o e), I.base.free b o (I.ok.bs b o e).1 (I.ok.bs b o e).2 (I.ok.noex b o e)⟩
theorem Inv.bk (I : Inv X pins σ H s) : ∀ b o, X.base.get? b = some o → s.heap.get? b = some o := fun b o e => (I.bs b o e).1
theorem Inv.mod (I : Inv X pins σ H s) : Mod X.K X.mg X.base := I.ok.mod
theorem Inv.kIn (I : Inv X pins σ H s) : X.K.In s.heap := I.ok.mod.kin.keeps I.bk
theorem Inv.lt (I : Inv X pins σ H s) : X.env.locals < s.heap.objs.size := let ⟨_, hn, _⟩ := I.loc; hn.lt
theorem Inv.sz (I : Inv X pins σ H s) : X.s₀.heap.objs.size ≤ s.heap.objs.size := Nat.le_trans I.ok.above (Nat.le_of_lt I.lt)
theorem Inv.nofs (I : Inv X pins σ H s) {a : Addr} (h : s.heap.objs.size ≤ a) : a ∉ X.fs := fun hb => by
  obtain ⟨_, o, ho, _⟩ := I.ok.funs.mem hb
  exact absurd (Nat.lt_of_lt_of_le (Heap.lt_size ho) (Nat.le_trans I.sz h)) (Nat.lt_irrefl _)
theorem Inv.cne (I : Inv X pins σ H s) : ∀ x c, X.env.cells.lookup x = some c → c ≠ X.env.locals := fun x c e z => by
  obtain ⟨v, o, ho, hd⟩ := I.cell x c e
  obtain ⟨m, ⟨o', es, ep, ho', hd', _⟩, _⟩ := I.loc
  rw [z, ho'] at ho; cases ho; rw [hd'] at hd; cases hd
theorem Inv.funs (I : Inv X pins σ H s) : s.heap.FunFrames X.base X.outer := by
  have all : ∀ (l : List Env), (∀ b ∈ frs l, b ∈ X.fs) → X.s₀.heap.FunFrames X.base l → s.heap.FunFrames X.base l := by
    intro l
    induction l with
    | nil => intro _ _; trivial
    | cons env r ih =>
      intro hs hl
      obtain ⟨hk, ⟨L, o, hf, hn, ho, hd⟩, hr⟩ := hl
      have hL : L ∈ X.fs := hs L (by unfold frs; rw [List.filterMap_cons, hf]; exact List.mem_cons_self)
      obtain ⟨sl, e⟩ := I.base.slot L o ho (I.ok.frf L hL) hL fun z => I.ok.exfs L z hL
      exact ⟨hk, ⟨L, _, hf, hn, e, hd⟩, ih (fun b hb => hs b (by unfold frs; rw [List.filterMap_cons, hf]; exact List.mem_cons_of_mem _ hb)) hr⟩
  exact all X.outer (fun _ hb => hb) I.ok.funs
theorem Inv.stack (I : Inv X pins σ H s) : s.heap.FunFrames X.base X.stack := by
  rcases I.ok.stk with e | ⟨e, hf⟩
  · rw [e]; exact I.funs
  · rw [e]
    obtain ⟨m, hn, _⟩ := I.loc
    refine .cons (by rw [I.ok.kind]; decide) hf hn ?_ I.funs
    exact Heap.get?_none_of_le (Nat.le_trans I.ok.bsz I.ok.above)
theorem Inv.stkSub (I : Inv X pins σ H s) : ∀ b ∈ frs X.stack, b ∈ X.env.locals :: X.fs := fun b hb => by
  rcases I.ok.stk with e | ⟨e, hf⟩
  · rw [e] at hb; exact List.mem_cons_of_mem _ hb
  · rw [e] at hb
    unfold frs at hb
    rw [List.filterMap_cons, hf] at hb
    exact hb
theorem Inv.stkFree (I : Inv X pins σ H s) : ∀ b ∈ frs X.stack, H b = none := fun b hb => by
  rcases List.mem_cons.mp (I.stkSub b hb) with e | hb
  · rw [e]; exact I.free
  · obtain ⟨_, o, ho, _⟩ := I.ok.funs.mem hb
    exact I.base.free b o ho (I.ok.frf b hb) fun z => I.ok.exfs b z hb
theorem Inv.step {g' : Array GenState} {t' : Nat} {d' : Drawn} {ch : List Addr} (I : Inv X pins σ H s)
    (hch : ∀ b ∈ ch, (b ∈ X.ex ∨ X.s₀.heap.objs.size ≤ b) ∧ b ≠ X.env.locals ∧ (∀ x c, X.env.cells.lookup x = some c → c ≠ b) ∧ ∀ p ∈ X.pn ++ pins, p.1 ≠ b)
    (keep : ∀ b o, b ≠ X.env.locals → b ∉ X.fs → b ∉ ch → s.heap.get? b = some o → H b = none → h'.get? b = some o)
    (slot : ∀ b o, b ≠ X.env.locals → b ∈ X.fs → b ∉ ch → s.heap.get? b = some o → H b = none → ∃ sl, h'.get? b = some { o with slots := sl }) (free : ∀ b o, b ∉ ch → s.heap.get? b = some o → H b = none → H' b = none)
    (there : ∀ b o, b ∉ ch → s.heap.get? b = some o → ∃ o', h'.get? b = some o')
    (tups : ∀ b xs, H b = some (.tup xs) → H' b = some (.tup xs)) (frzs : ∀ b o u, H b = some (.frz o u) → H' b = some (.frz o u)) (tbls : ∀ b ps, H b = some (.tbl ps) → ∃ more, H' b = some (.tbl (ps ++ more)))
    (ns : ∀ m, s.heap.Ns X.env.locals m → h'.Ns X.env.locals m) (hok : HOk X.prog X.w H' h') (hg : AllBare g') :
    Inv X pins σ H' { s with heap := h', gens := g', drawn := d', toks := t' } := by
  have neL : ∀ b o, X.s₀.heap.get? b = some o → b ≠ X.env.locals := fun b o e => Nat.ne_of_lt (Nat.lt_of_lt_of_le (Heap.lt_size e) I.ok.above)
  have neC : ∀ b o, X.s₀.heap.get? b = some o → b ∉ X.ex → b ∉ ch := fun b o e hx hb => by
    rcases (hch b hb).1 with z | z
    · exact hx z
    · exact absurd (Nat.lt_of_lt_of_le (Heap.lt_size e) z) (Nat.lt_irrefl _)
  have cellK : ∀ x c, X.env.cells.lookup x = some c → ∀ v, s.heap.IsCell c v → h'.IsCell c v := fun x c e v ⟨o, ho, hd⟩ => by
    have nch : c ∉ ch := fun z => (hch c z).2.2.1 x c e rfl
    by_cases hc : c ∈ X.fs
    · obtain ⟨sl, q⟩ := slot c o (I.cne x c e) hc nch ho (I.freeC x c e)
      exact ⟨_, q, hd⟩
    · exact ⟨o, keep c o (I.cne x c e) hc nch ho (I.freeC x c e), hd⟩
  refine ⟨I.ok, I.os, hg, ⟨fun b o e n hb hx => ?_, fun b o e n hb hx => ?_, fun b o e n hx => ?_, fun b o e hx => ?_, fun b xs e => tups b xs (I.base.tups b xs e), fun b o xs e => frzs b o xs (I.base.frzs b o xs e), fun b ps e => ?_⟩, ?_, fun x c e => ?_, ?_, fun x c e => ?_, fun p hp => ?_, hok, I.len⟩
  · exact keep b o (neL b o e) hb (neC b o e hx) (I.base.keep b o e n hb hx) (I.base.free b o e n hx)
  · obtain ⟨sl, e1⟩ := I.base.slot b o e n hb hx
    obtain ⟨sl', e2⟩ := slot b _ (neL b o e) hb (neC b o e hx) e1 (I.base.free b o e n hx)
    exact ⟨sl', e2⟩
  · obtain ⟨o', e1⟩ := I.base.there b o e hx
    exact free b o' (neC b o e hx) e1 (I.base.free b o e n hx)
  · obtain ⟨o', e1⟩ := I.base.there b o e hx
    exact there b o' (neC b o e hx) e1
  · obtain ⟨m1, e1⟩ := I.base.tbls b ps e
    obtain ⟨m2, e2⟩ := tbls b _ e1
    exact ⟨m1 ++ m2, by rw [e2, Array.append_assoc]⟩
  · obtain ⟨m, hn, hl⟩ := I.loc
    refine ⟨m, ns m hn, fun i x v e1 e2 e3 => ?_⟩
    obtain ⟨u, r, l⟩ := hl i x v e1 e2 e3
    refine ⟨u, r, ?_⟩
    rcases l with l | ⟨k, c, e, z⟩
    · exact .inl l
    · exact .inr ⟨k, c, e, cellK x c e _ z⟩
  · obtain ⟨v, z⟩ := I.cell x c e
    exact ⟨v, cellK x c e v z⟩
  · obtain ⟨m, ⟨o, _, _, ho, _⟩, _⟩ := I.loc
    exact free _ o (fun z => (hch _ z).2.1 rfl) ho I.free
  · obtain ⟨v, o, ho, hd⟩ := I.cell x c e
    exact free c o (fun z => (hch c z).2.2.1 x c e rfl) ho (I.freeC x c e)
  · obtain ⟨e, n, ne, nf, d⟩ := I.pin p hp
    have nch : p.1 ∉ ch := fun z => (hch p.1 z).2.2.2 p hp rfl
    exact ⟨keep p.1 p.2 ne nf nch e n, free p.1 p.2 nch e n, ne, nf, d⟩
theorem Inv.un {t' : Nat} (I : Inv X pins σ H s) (u : Un X.fs [] H H' s.heap h') (hok : HOk X.prog X.w H' h') : Inv X pins σ H' { s with heap := h', toks := t' } := by
  obtain ⟨m, ⟨o, es, ep, ho, r⟩, _⟩ := id I.loc
  obtain ⟨sl, hL⟩ := u.any ho I.free (by simp)
  exact I.step (g' := s.gens) (d' := s.drawn) (ch := []) (fun _ z => nomatch z) (fun b o _ hb _ e n => u.keep b o e n hb (by simp)) (fun b o _ hb _ e n => u.slot b o e n hb (by simp)) (fun b o _ e n => u.free b o e n (by simp)) (fun b o _ e => u.there b o e (by simp)) u.tups u.frzs u.tbls (fun m' hm => by
    obtain ⟨o', es', ep', ho', r'⟩ := hm
    rw [ho] at ho'; cases ho'
    exact ⟨_, es', ep', hL, r'⟩) hok I.bare
theorem Inv.call {g' : Array GenState} {t' : Nat} {d' : Drawn} {ch : List Addr} (I : Inv X pins σ H s) (u : Un (frs X.stack) ch H H' s.heap h') (hok : HOk X.prog X.w H' h') (hg : AllBare g')
    (hch : ∀ b ∈ ch, (b ∈ X.ex ∨ X.s₀.heap.objs.size ≤ b) ∧ b ≠ X.env.locals ∧ (∀ x c, X.env.cells.lookup x = some c → c ≠ b) ∧ ∀ p ∈ X.pn ++ pins, p.1 ≠ b) :
    Inv X pins σ H' { s with heap := h', gens := g', drawn := d', toks := t' } := by
  obtain ⟨m, ⟨o, es, ep, ho, r⟩, _⟩ := id I.loc
  obtain ⟨sl, hL⟩ := u.any ho I.free fun z => (hch _ z).2.1 rfl
  exact I.step (ch := ch) hch (fun b o hL hb hc e n => u.keep b o e n (fun z => (List.mem_cons.mp (I.stkSub b z)).elim hL hb) hc) (fun b o _ _ hc e n => u.any e n hc) (fun b o hc e n => u.free b o e n hc) (fun b o hc e => u.there b o e hc) u.tups u.frzs u.tbls (fun m' hm => by
    obtain ⟨o', es', ep', ho', r'⟩ := hm
    rw [ho] at ho'; cases ho'
    exact ⟨_, es', ep', hL, r'⟩) hok hg
theorem Inv.turned {t' : Nat} {it : Addr} (I : Inv X pins σ H s) (k : ∀ b o, b ≠ it → s.heap.get? b = some o → h'.get? b = some o) (hn : H it = none) (hL : it ≠ X.env.locals)
    (h1 : it ∈ X.ex ∨ X.s₀.heap.objs.size ≤ it) (h2 : ∀ x c, X.env.cells.lookup x = some c → c ≠ it) (h3 : ∀ p ∈ X.pn ++ pins, p.1 ≠ it) : Inv X pins σ H { s with heap := h', toks := t' } := by
  have nit : ∀ b u, H b = some u → b ≠ it := fun b u e z => by rw [z, hn] at e; cases e
  refine I.step (g' := s.gens) (d' := s.drawn) (ch := [it]) (fun b hb => ?_) (fun b o _ _ hc e _ => k b o (fun z => hc (by simp [z])) e) (fun b o _ _ hc e _ => ⟨o.slots, k b o (fun z => hc (by simp [z])) e⟩) (fun _ _ _ _ n => n)
    (fun b o hc e => ⟨o, k b o (fun z => hc (by simp [z])) e⟩) (fun _ _ e => e) (fun _ _ _ e => e) (fun b ps e => ⟨#[], by rw [e]; simp⟩) (fun m hm => ?_) (fun b u e => ?_) I.bare
  · have e : b = it := by simpa using hb
    subst e
    exact ⟨h1, hL, h2, h3⟩
  · obtain ⟨o, es, ep, ho, r⟩ := hm
    exact ⟨o, es, ep, k _ o (Ne.symm hL) ho, r⟩
  · refine (I.hok b u e).stay (fun c v hc q => k c v ?_ q) (fun _ q => q) fun _ _ q => q
    rcases hc with z | z
    · rw [z]; exact nit b u e
    · exact nit c _ z
theorem Inv.tok (I : Inv X pins σ H s) (t : Nat) : Inv X pins σ H { s with toks := t } := I.un (h' := s.heap) (t' := t) Un.refl I.hok
theorem Inv.kept {t' : Nat} (I : Inv X pins σ H s) (k : ∀ b u, s.heap.get? b = some u → h'.get? b = some u) : Inv X pins σ H { s with heap := h', toks := t' } := I.un (Un.kept k) (I.hok.kept k)
theorem Inv.laid {a : Addr} {o : HO} {t' : Nat} (I : Inv X pins σ H s) (k : ∀ b u, s.heap.get? b = some u → h'.get? b = some u) (hp : s.heap.objs.size ≤ a) (new : ObjOk X.prog X.w (upd H a o) h' a o) :
    Inv X pins σ (upd H a o) { s with heap := h', toks := t' } := I.un (Un.laid k hp (I.hok.fresh hp)) (I.hok.laid k hp new)
theorem Inv.write {x e : Addr} {o : HO} {t' : Nat} (I : Inv X pins σ H s) (mu : Mut (H x)) (he : e = x ∨ H e = some (.own x)) (k : ∀ b u, b ≠ e → s.heap.get? b = some u → h'.get? b = some u) (heo : ∃ u, h'.get? e = some u)
    (new : ObjOk X.prog X.w (upd H x o) h' x o) : Inv X pins σ (upd H x o) { s with heap := h', toks := t' } := I.un (Un.write mu he k heo) (I.hok.write mu he k heo new)
theorem Inv.pins_of {pins' : List (Addr × Obj)} (I : Inv X pins σ H s) (h : ∀ p ∈ pins', s.heap.get? p.1 = some p.2 ∧ H p.1 = none ∧ p.1 ≠ X.env.locals ∧ p.1 ∉ X.fs ∧ ∀ v, p.2.data ≠ .cell v) : Inv X pins' σ H s :=
  ⟨I.ok, I.os, I.bare, I.base, I.loc, I.cell, I.free, I.freeC, fun p hp => (List.mem_append.mp hp).elim (fun z => I.pin p (List.mem_append_left _ z)) (h p), I.hok, I.len⟩
theorem nodup_ix {N : List Str} (hN : N.Nodup) {i j : Nat} {x : Str} (a : N[i]? = some x) (b : N[j]? = some x) : i = j := by
  obtain ⟨h1, e1⟩ := List.getElem?_eq_some_iff.mp a
  obtain ⟨h2, e2⟩ := List.getElem?_eq_some_iff.mp b
  exact (List.getElem_inj hN).mp (e1.trans e2.symm)
theorem store_ok2 {M : Model} {A : Around} {E : Value → Shared → Prop} {i : Nat} {x : Str} {v : V} {u : Value} {Q : Unit → Shared → Prop} (I : Inv X pins σ H s) (hN : X.N.Nodup) (hi : X.N[i]? = some x) (hx : Loc X.env.scope x) (r : RelV v u)
    (h : ∀ s', Inv X pins (σ.set i (some v)) H s' → (∃ a, Heap.SameBut a s.heap s'.heap ∧ (a = X.env.locals ∨ X.env.cells.lookup x = some a)) → Q () s') (hf : X.fn x = true ∨ X.env.scope.names.lookup x = some .local) : wpAny M A (storeName X.env x u) Q E s := by
  obtain ⟨m, hn, hl⟩ := id I.loc
  have hcls : (X.env.scope.kind == .class || (X.env.scope.kind == .module && X.env.locals != X.env.globals)) = false := by rw [I.ok.kind]; rfl
  have hiσ : i < σ.length := by rw [I.len]; exact (List.getElem?_eq_some_iff.mp hi).1
  have cne := I.cne
  have tracked : ∀ {a : Addr} {h' : Heap}, (∃ o, s.heap.get? a = some o ∧ H a = none) → Heap.SameBut a s.heap h' → HOk X.prog X.w H h' := fun {a h'} ha hs b ob e => by
    obtain ⟨_, _, hfree⟩ := ha
    refine (I.hok b ob e).stay (fun c w' hc q => (hs.2 c ?_).trans q) (fun _ q => q) fun _ _ q => q
    rintro rfl
    rcases hc with rfl | hc
    · rw [hfree] at e; cases e
    · rw [hfree] at hc; cases hc
  rcases hx with hk | hk
  · refine wpAny_storeName_local hk hn (fun h' hn' hs => ?_) hcls
    obtain ⟨oL, _, _, hoL, _⟩ := id hn
    refine h _ ⟨I.ok, I.os, I.bare, ⟨fun b o e n hb hx => ?_, fun b o e n hb hx => ?_, I.base.free, fun b o e hx => ?_, I.base.tups, I.base.frzs, I.base.tbls⟩, ⟨_, hn', fun j y v' e1 e2 e3 => ?_⟩, fun y c e => ?_, I.free, I.freeC, fun p hp => ?_, tracked ⟨oL, hoL, I.free⟩ hs, by simpa using I.len⟩ ⟨_, hs, .inl rfl⟩
    · exact (hs.2 b (Nat.ne_of_lt (Nat.lt_of_lt_of_le (Heap.lt_size e) I.ok.above))).trans (I.base.keep b o e n hb hx)
    · obtain ⟨sl, e1⟩ := I.base.slot b o e n hb hx
      exact ⟨sl, (hs.2 b (Nat.ne_of_lt (Nat.lt_of_lt_of_le (Heap.lt_size e) I.ok.above))).trans e1⟩
    · obtain ⟨o', e1⟩ := I.base.there b o e hx
      exact ⟨o', (hs.2 b (Nat.ne_of_lt (Nat.lt_of_lt_of_le (Heap.lt_size e) I.ok.above))).trans e1⟩
    · by_cases hj : j = i
      · subst hj
        rw [hi] at e1; cases e1
        rw [List.getElem?_set_self hiσ] at e2
        cases e2
        exact ⟨u, r, .inl ⟨hk, by simp⟩⟩
      · rw [List.getElem?_set_ne (Ne.symm hj)] at e2
        obtain ⟨u', r', q⟩ := hl j y v' e1 e2 e3
        refine ⟨u', r', ?_⟩
        rcases q with ⟨k, e⟩ | ⟨k, c, e, z⟩
        · refine .inl ⟨k, ?_⟩
          have : y ≠ x := fun e => hj (nodup_ix hN e1 (e ▸ hi))
          simp [this, e]
        · exact .inr ⟨k, c, e, z.sameBut hs (cne y c e)⟩
    · obtain ⟨w', z⟩ := I.cell y c e
      exact ⟨w', z.sameBut hs (cne y c e)⟩
    · obtain ⟨e, n, ne, nf, d⟩ := I.pin p hp
      exact ⟨(hs.2 p.1 ne).trans e, n, ne, nf, d⟩
  · have hfn : X.fn x = true := by
      rcases hf with z | z
      · exact z
      · rw [z] at hk; cases hk
    obtain ⟨c, hc⟩ := I.ok.has x (.inl hk)
    obtain ⟨w', z⟩ := I.cell x c hc
    refine wpAny_storeName_cell I.ok.kind hk hc z (fun h' hc' hs => ?_)
    obtain ⟨oc, hoc, hocd⟩ := id z
    refine h { s with heap := h' } ⟨I.ok, I.os, I.bare, ⟨fun b o e n hb hx => ?_, fun b o e n hb hx => ?_, I.base.free, fun b o e hx => ?_, I.base.tups, I.base.frzs, I.base.tbls⟩, ⟨m, hn.sameBut hs (Ne.symm (cne x c hc)), fun j y v' e1 e2 e3 => ?_⟩, fun y c' e => ?_, I.free, I.freeC, fun p hp => ?_, tracked ⟨oc, hoc, I.freeC x c hc⟩ hs, by simpa using I.len⟩ ⟨c, hs, .inr hc⟩
    · exact (hs.2 b (Nat.ne_of_lt (Nat.lt_of_lt_of_le (Heap.lt_size e) (I.ok.cab x c hfn hc)))).trans (I.base.keep b o e n hb hx)
    · obtain ⟨sl, e1⟩ := I.base.slot b o e n hb hx
      exact ⟨sl, (hs.2 b (Nat.ne_of_lt (Nat.lt_of_lt_of_le (Heap.lt_size e) (I.ok.cab x c hfn hc)))).trans e1⟩
    · obtain ⟨o', e1⟩ := I.base.there b o e hx
      exact ⟨o', (hs.2 b (Nat.ne_of_lt (Nat.lt_of_lt_of_le (Heap.lt_size e) (I.ok.cab x c hfn hc)))).trans e1⟩
    · by_cases hj : j = i
      · subst hj
        rw [hi] at e1; cases e1
        rw [List.getElem?_set_self hiσ] at e2
        cases e2
        exact ⟨u, r, .inr ⟨.inl hk, c, hc, hc'⟩⟩
      · rw [List.getElem?_set_ne (Ne.symm hj)] at e2
        obtain ⟨u', r', q⟩ := hl j y v' e1 e2 e3
        refine ⟨u', r', ?_⟩
        rcases q with q | ⟨k, c', e, z'⟩
        · exact .inl q
        · refine .inr ⟨k, c', e, z'.sameBut hs ?_⟩
          rintro rfl
          exact hj (nodup_ix hN e1 (I.ok.inj _ _ _ e hc ▸ hi))
    · by_cases hcc : c' = c
      · subst hcc; exact ⟨_, hc'⟩
      · obtain ⟨w2, z2⟩ := I.cell y c' e
        exact ⟨w2, z2.sameBut hs hcc⟩
    · obtain ⟨e, n, ne, nf, d⟩ := I.pin p hp
      refine ⟨(hs.2 p.1 ?_).trans e, n, ne, nf, d⟩
      intro q
      rw [q, hoc] at e
      have q' : oc = p.2 := Option.some.inj e
      exact d w' (by rw [← q']; exact hocd)
theorem store_ok {M : Model} {A : Around} {E : Value → Shared → Prop} {i : Nat} {x : Str} {v : V} {u : Value} {Q : Unit → Shared → Prop} (I : Inv X pins σ H s) (hN : X.N.Nodup) (hi : X.N[i]? = some x) (hx : Loc X.env.scope x) (r : RelV v u)
    (h : ∀ s', Inv X pins (σ.set i (some v)) H s' → Q () s') (hf : X.fn x = true ∨ X.env.scope.names.lookup x = some .local) : wpAny M A (storeName X.env x u) Q E s :=
  store_ok2 I hN hi hx r (fun s' I' _ => h s' I') hf
theorem Inv.call' {s' : Shared} {ch : List Addr} (I : Inv X pins σ H s) (ho : s'.os = s.os) (u : Un (frs X.stack) ch H H' s.heap s'.heap) (hok : HOk X.prog X.w H' s'.heap) (hg : AllBare s'.gens)
    (hch : ∀ b ∈ ch, (b ∈ X.ex ∨ X.s₀.heap.objs.size ≤ b) ∧ b ≠ X.env.locals ∧ (∀ x c, X.env.cells.lookup x = some c → c ≠ b) ∧ ∀ p ∈ X.pn ++ pins, p.1 ≠ b) : Inv X pins σ H' s' := by
  obtain ⟨h', g', d', t', o'⟩ := s'
  have e : o' = s.os := ho
  subst e
  exact I.call (g' := g') (t' := t') (d' := d') u hok hg hch
end
noncomputable abbrev XK := Value → Option Addr → Hp → Prop
noncomputable abbrev St := List (Option V)
noncomputable abbrev VK := V → Hp → Prop
noncomputable abbrev TE := St → Hp → VK → Prop
noncomputable abbrev TT := St → Hp → (Bool → Hp → Prop) → Prop
noncomputable abbrev TA := St → Hp → (List V → Hp → Prop) → Prop
set_option genInjectivity false in
structure Ends where
  nx : St → Hp → Prop
  rt : VK
  bk : St → Hp → Prop := fun _ _ => False
  ct : St → Hp → Prop := fun _ _ => False
noncomputable abbrev TS := Ends → St → Hp → Prop
noncomputable def EP (X : Cx) (pins : List (Addr × Obj)) (σ : St) (Q : VK) (u : Value) (s' : Shared) : Prop := ∃ v H', Inv X pins σ H' s' ∧ RelV v u ∧ Q v H'
noncomputable def TP (X : Cx) (pins : List (Addr × Obj)) (σ : St) (Q : Bool → Hp → Prop) (b : Bool) (s' : Shared) : Prop := ∃ H', Inv X pins σ H' s' ∧ Q b H'
noncomputable def AP (X : Cx) (pins : List (Addr × Obj)) (σ : St) (Q : List V → Hp → Prop) (us : List Value) (s' : Shared) : Prop := ∃ vs H', Inv X pins σ H' s' ∧ Vals vs us ∧ Q vs H'
noncomputable def SP (X : Cx) (pins : List (Addr × Obj)) (D : Ends) (f : Flow) (s' : Shared) : Prop :=
  match f with
  | .next => ∃ σ' H', Inv X pins σ' H' s' ∧ D.nx σ' H'
  | .brk => ∃ σ' H', Inv X pins σ' H' s' ∧ D.bk σ' H'
  | .cont => ∃ σ' H', Inv X pins σ' H' s' ∧ D.ct σ' H'
  | .ret u => ∃ v σ' H', Inv X pins σ' H' s' ∧ RelV v u ∧ D.rt v H'
noncomputable def PE (X : Cx) (e : Expr) (t : TE) : Prop :=
  ∀ (pins : List (Addr × Obj)) (s : Shared) (σ : St) (H : Hp) (Q : VK), Inv X pins σ H s → t σ H Q → wpAny (model X.prog X.w) X.A (eval e X.env) (EP X pins σ Q) X.xe s
noncomputable def PT (X : Cx) (e : Expr) (t : TT) : Prop :=
  ∀ (pins : List (Addr × Obj)) (s : Shared) (σ : St) (H : Hp) (Q : Bool → Hp → Prop), Inv X pins σ H s → t σ H Q → wpAny (model X.prog X.w) X.A (isTrue e X.env (eval e X.env)) (TP X pins σ Q) X.xe s
noncomputable def PW (X : Cx) (e : Expr) (t : TT) : Prop :=
  ∀ (whole : Sem Value) (pins : List (Addr × Obj)) (s : Shared) (σ : St) (H : Hp) (Q : Bool → Hp → Prop), Inv X pins σ H s → t σ H Q → wpAny (model X.prog X.w) X.A (isTrue e X.env whole) (TP X pins σ Q) X.xe s
theorem PW.pt {X : Cx} {e : Expr} {t : TT} (h : PW X e t) : PT X e t := h _
noncomputable def PA (X : Cx) (es : List Expr) (t : TA) : Prop :=
  ∀ (pos : Pos) (pins : List (Addr × Obj)) (s : Shared) (σ : St) (H : Hp) (Q : List V → Hp → Prop), Inv X pins σ H s → t σ H Q → wpAny (model X.prog X.w) X.A (spliced (backTo pos (starEach es X.env))) (AP X pins σ Q) X.xe s
noncomputable def PS (X : Cx) (st : Stmt) (t : TS) : Prop :=
  ∀ (pins : List (Addr × Obj)) (s : Shared) (σ : St) (H : Hp) (D : Ends), Inv X pins σ H s → t D σ H → wpAny (model X.prog X.w) X.A (exec st X.env) (SP X pins D) X.xe s
noncomputable def PSs (X : Cx) (st : List Stmt) (t : TS) : Prop :=
  ∀ (pins : List (Addr × Obj)) (s : Shared) (σ : St) (H : Hp) (D : Ends), Inv X pins σ H s → t D σ H → wpAny (model X.prog X.w) X.A (execs st X.env) (SP X pins D) X.xe s
theorem thn {α : Type} {t : Sem α} {Q Q' : α → Shared → Prop} {M : Model} {A : Around} {E : Value → Shared → Prop} {s : Shared} (h : wpAny M A t Q E s) (hQ : ∀ a s, Q a s → Q' a s) : wpAny M A t Q' E s := wpAny_mono h hQ fun _ _ x => x
end L2
namespace L2
open PySem PySem.Spec PyProof.Rows
section
variable {X : Cx}
noncomputable def tVar (i : Nat) : TE := fun σ H Q => ∃ v, σ[i]? = some (some v) ∧ Q v H
noncomputable def tC (v : V) : TE := fun _ H Q => Q v H
theorem pe_var {i : Nat} {x : Str} {pos : Pos} (hN : X.N[i]? = some x) (hv : Vis X.env.scope x) (hd : (x == ("__debug__" : Str)) = false := by decide) (hcd : (x == ("__classdict__" : Str)) = false := by decide) : PE X (.Name x pos) (tVar i) := by
  intro pins s σ H Q I h
  obtain ⟨v, e, h⟩ := h
  obtain ⟨m, hn, hl⟩ := I.loc
  obtain ⟨u, r, l⟩ := hl i x v hN e hv
  have fin : EP X pins σ Q u s := ⟨v, H, I, r, h⟩
  rcases l with ⟨hk, hm⟩ | ⟨hk, c, hc, hcell⟩
  · exact wpAny_Name (wpAny_loadName_local I.ok.kind hk hn hm fin) hd
  · rcases hk with hk | hk
    · exact wpAny_Name (wpAny_loadName_cell I.ok.kind hk hc hcell fin) hd
    · exact wpAny_Name (wpAny_loadName_free I.ok.kind hk hc hcell fin hcd) hd
theorem pe_int {i j pos} : PE X (.Constant (.int i) j pos) (tC (.int i)) := fun _ _ _ H _ I h => wpAny_Constant_int ⟨.int i, H, I.tok _, ⟨_, rfl⟩, h⟩
theorem pe_bl {b j pos} : PE X (.Constant (.bool b) j pos) (tC (.bl b)) := fun _ _ _ H _ I h => Constant_bool ⟨.bl b, H, I, rfl, h⟩
theorem pe_non {j pos} : PE X (.Constant .none j pos) (tC .non) := fun _ _ _ H _ I h => Constant_none ⟨.non, H, I, rfl, h⟩
theorem pe_str {x j pos} : PE X (.Constant (.str x) j pos) (tC (.str x)) := fun _ _ _ H _ I h => Calls.Constant_str ⟨.str x, H, I.tok _, ⟨_, rfl⟩, h⟩
noncomputable def Gl (X : Cx) (x : Str) : Prop := X.env.kindOf x = some .globalImplicit
theorem ld_glob {E : Value → Shared → Prop} {pins : List (Addr × Obj)} {s : Shared} {σ : St} {H : Hp} {x : Str} {u : Value} {pos : Pos} {Q : Value → Shared → Prop} (I : Inv X pins σ H s) (hg : Gl X x) (hm : X.mg x = some u) (h : Q u s)
    (hd : (x == ("__debug__" : Str)) = false := by decide) : wpAny (model X.prog X.w) X.A (eval (.Name x pos) X.env) Q E s :=
  Calls.Name_function_global I.ok.kind hg (Calls.loadGlobal_global (by rw [I.ok.glob]; exact I.mod.glob.keeps I.bk) hm h) hd
theorem ld_blt {E : Value → Shared → Prop} {pins : List (Addr × Obj)} {s : Shared} {σ : St} {H : Hp} {x : Str} {u : Value} {pos : Pos} {Q : Value → Shared → Prop} (I : Inv X pins σ H s) (hg : Gl X x) (hm : X.mg x = none) (hv : bootBuiltins x = some u) (h : Q u s)
    (hn : x ≠ "__name__" := by decide) (hd : (x == ("__debug__" : Str)) = false := by decide) : wpAny (model X.prog X.w) X.A (eval (.Name x pos) X.env) Q E s := by
  obtain ⟨mb, h1, h2⟩ := I.mod.blt
  exact Calls.Name_function_global I.ok.kind hg (Calls.loadGlobal_builtin (by rw [I.ok.glob]; exact I.mod.glob.keeps I.bk) hm (by rw [I.ok.blt]; exact h1.keeps I.bk) ((h2 x hn).trans hv) h) hd
theorem pe_bltn {x : Str} {v : V} {u : Value} {pos : Pos} (hg : Gl X x) (hm : X.mg x = none) (hv : bootBuiltins x = some u) (r : RelV v u) (hn : x ≠ "__name__" := by decide) (hd : (x == ("__debug__" : Str)) = false := by decide) : PE X (.Name x pos) (tC v) :=
  fun _ _ _ H _ I h => ld_blt I hg hm hv ⟨v, H, I, r, h⟩ hn hd
variable {a b : Expr} {ta tb : TE} {pos : Pos}
noncomputable def PC (X : Cx) (op : CmpOp) (a b : Expr) (t : TE) : Prop :=
  ∀ (pins : List (Addr × Obj)) (s : Shared) (σ : St) (H : Hp) (Q : VK), Inv X pins σ H s → t σ H Q →
    wpAny (model X.prog X.w) X.A (eval a X.env) (fun v s₁ => wpAny (model X.prog X.w) X.A (eval b X.env) (fun u s₂ => wpAny (model X.prog X.w) X.A (compareOp op v u) (EP X pins σ Q) X.xe s₂) X.xe s₁) X.xe s
theorem nobehind (b : Expr) {op : CmpOp} (h : op ≠ .In) (h2 : op ≠ .NotIn) : behindInMarks op b = false := by
  have e1 : (op == CmpOp.In) = false := by cases op <;> first | rfl | exact absurd rfl h
  have e2 : (op == CmpOp.NotIn) = false := by cases op <;> first | rfl | exact absurd rfl h2
  cases b <;> simp [behindInMarks, e1, e2]
noncomputable def tIsN (ta : TE) : TE := fun σ H Q => ta σ H fun x H1 => Q (.bl (decide (x = .non))) H1
noncomputable def tNotN (ta : TE) : TE := fun σ H Q => ta σ H fun x H1 => Q (.bl (!decide (x = .non))) H1
theorem RelV.none_iff {x : V} {v : Value} (r : RelV x v) : (v == Value.none) = decide (x = .non) := by
  cases x with
  | non => cases r; rfl
  | bl _ => cases r; rfl
  | int _ => obtain ⟨t, rfl⟩ := r; rfl
  | str _ => obtain ⟨t, rfl⟩ := r; rfl
  | byt _ => obtain ⟨t, rfl⟩ := r; rfl
  | flt _ => obtain ⟨t, rfl⟩ := r; rfl
  | ref _ => cases r; rfl
  | ty _ => cases r; rfl
theorem pc_isN {j pos'} (ha : PE X a ta) : PC X .Is a (.Constant .none j pos') (tIsN ta) := by
  intro pins s σ H Q I h
  refine thn (ha pins s σ H _ I h) fun v s1 hpat => ?_
  obtain ⟨x, H1, I1, r1, q1⟩ := hpat
  exact Constant_none (is_none_gen ⟨.bl _, H1, I1, by rw [r1.none_iff]; rfl, q1⟩)
theorem pc_notN {j pos'} (ha : PE X a ta) : PC X .IsNot a (.Constant .none j pos') (tNotN ta) := by
  intro pins s σ H Q I h
  refine thn (ha pins s σ H _ I h) fun v s1 hpat => ?_
  obtain ⟨x, H1, I1, r1, q1⟩ := hpat
  exact Constant_none (isnot_none_gen ⟨.bl _, H1, I1, by rw [r1.none_iff]; rfl, q1⟩)
noncomputable def tB (t : TE) : TT := fun σ H Q => t σ H fun x H1 => ∃ c, x = .bl c ∧ Q c H1
theorem pt_cmp {op : CmpOp} {t : TE} (h : PC X op a b t) (h1 : behindInMarks op b = false := by first | exact nobehind _ (by decide) (by decide) | rfl) : PT X (.Compare a [op] [b] pos) (tB t) := by
  intro pins s σ H Q I hw
  refine wpAny_isTrue_Compare1 (thn (h pins s σ H _ I hw) fun v s1 h1 => thn h1 fun u s2 h2 => thn h2 fun c s3 hpat => ?_) h1
  obtain ⟨x, H1, I1, r1, q1⟩ := hpat
  obtain ⟨d, rfl, q⟩ := q1
  cases r1
  exact wpAny_truthy_bool ⟨H1, I1, q⟩
theorem pt_val {e : Expr} {t : TE} (h : PE X e t) (he : ∀ whole, isTrue e X.env whole = (do let v ← whole; standAt e.pos; holding [v] (truthy v)) := by intro _; rfl) : PT X e (tB t) := by
  intro pins s σ H Q I hw
  refine isTrue_plain (thn (h pins s σ H _ I hw) fun v s1 hpat => ?_) (he _)
  obtain ⟨x, H1, I1, r1, q1⟩ := hpat
  obtain ⟨d, rfl, q⟩ := q1
  cases r1
  exact wpAny_truthy_bool ⟨H1, I1, q⟩
variable {tA tB' : TT} {rest : List Expr}
noncomputable def tAnd (t u : TT) : TT := fun σ H Q => t σ H fun c H1 => if c = true then u σ H1 Q else Q false H1
noncomputable def tOr (t u : TT) : TT := fun σ H Q => t σ H fun c H1 => if c = true then Q true H1 else u σ H1 Q
noncomputable def tNot (t : TT) : TT := fun σ H Q => t σ H fun c H1 => Q (!c) H1
theorem pw_and1 (ha : PT X a tA) : PW X (.BoolOp .And [a] pos) tA := by
  intro wh pins s σ H Q I h
  refine isTrue_and (thn (ha pins s σ H Q I h) fun c s1 e => ?_)
  cases c with
  | true => exact isTrue_and_nil e
  | false => exact e
theorem pw_or1 (ha : PT X a tA) : PW X (.BoolOp .Or [a] pos) tA := by
  intro wh pins s σ H Q I h
  refine isTrue_or (thn (ha pins s σ H Q I h) fun c s1 e => ?_)
  cases c with
  | false => exact isTrue_or_nil e
  | true => exact e
theorem pw_and (ha : PT X a tA) (hb : PW X (.BoolOp .And (b :: rest) pos) tB') : PW X (.BoolOp .And (a :: b :: rest) pos) (tAnd tA tB') := by
  intro wh pins s σ H Q I h
  refine isTrue_and (thn (ha pins s σ H _ I h) fun c s1 hpat => ?_)
  obtain ⟨H1, I1, q1⟩ := hpat
  cases c with
  | true => exact hb wh pins s1 σ H1 Q I1 q1
  | false => exact ⟨H1, I1, q1⟩
theorem pw_or (ha : PT X a tA) (hb : PW X (.BoolOp .Or (b :: rest) pos) tB') : PW X (.BoolOp .Or (a :: b :: rest) pos) (tOr tA tB') := by
  intro wh pins s σ H Q I h
  refine isTrue_or (thn (ha pins s σ H _ I h) fun c s1 hpat => ?_)
  obtain ⟨H1, I1, q1⟩ := hpat
  cases c with
  | true => exact ⟨H1, I1, q1⟩
  | false => exact hb wh pins s1 σ H1 Q I1 q1
theorem pt_not (ha : PT X a tA) : PT X (.UnaryOp .Not a pos) (tNot tA) := by
  intro pins s σ H Q I h
  exact isTrue_not (ha pins s σ H (fun c H1 => Q (!c) H1) I h)
noncomputable def tAndV (ta tb : TE) : TE := fun σ H Q => ta σ H fun x H1 => ∃ c, x = .bl c ∧ if c = true then tb σ H1 Q else Q (.bl false) H1
noncomputable def tNotV (ta : TE) : TE := fun σ H Q => ta σ H fun x H1 => ∃ c, x = .bl c ∧ Q (.bl (!c)) H1
theorem pe_one {op} {t : TE} (h : PE X a t) : PE X (.BoolOp op [a] pos) t := fun pins s σ H Q I hw => BoolOp_one (h pins s σ H Q I hw)
theorem pe_and (ha : PE X a ta) (hb : PE X (.BoolOp .And (b :: rest) pos) tb) : PE X (.BoolOp .And (a :: b :: rest) pos) (tAndV ta tb) := by
  intro pins s σ H Q I h
  refine BoolOp_and (thn (ha pins s σ H _ I h) fun v s1 hpat => ?_)
  obtain ⟨x, H1, I1, r1, q1⟩ := hpat
  obtain ⟨c, rfl, q1⟩ := q1
  cases r1
  refine wpAny_truthy_bool ?_
  cases c with
  | true => exact hb pins s1 σ H1 Q I1 q1
  | false => exact ⟨.bl false, H1, I1, rfl, q1⟩
theorem pe_not (ha : PE X a ta) : PE X (.UnaryOp .Not a pos) (tNotV ta) := by
  intro pins s σ H Q I h
  refine UnaryOp_ (thn (ha pins s σ H _ I h) fun v s1 hpat => ?_)
  obtain ⟨x, H1, I1, r1, q1⟩ := hpat
  obtain ⟨c, rfl, q1⟩ := q1
  cases r1
  exact not_of (wpAny_truthy_bool ⟨.bl (!c), H1, I1, rfl, q1⟩)
end
end L2
namespace L2
open PySem PySem.Spec PyProof.Rows
noncomputable def SqL (K : PySem.W.Frag) (H : Hp) (a : Addr) (xs : List V) : Prop :=
  Rd H a (.lst xs) ∨
    ∃ (o : Obj) (its : Array Value) (n : Nat), K.lookup a = some o ∧ o.cls = .type "list" ∧ o.dict = none ∧ o.data = .seq its n ∧ its.size ≤ sizeLine ∧ Vals xs its.toList
noncomputable def SqT (K : PySem.W.Frag) (H : Hp) (a : Addr) (xs : List V) : Prop :=
  Rd H a (.tup xs) ∨
    ∃ (o : Obj) (its : Array Value) (n : Nat), K.lookup a = some o ∧ o.cls = .type "tuple" ∧ o.data = .seq its n ∧ its.size ≤ sizeLine ∧ Vals xs its.toList
noncomputable def absV : Value → Option V
  | .none => some .non
  | .bool b => some (.bl b)
  | .int i _ => some (.int i)
  | .str x _ => some (.str x)
  | .bytes b _ => some (.byt b)
  | .float b _ => some (.flt b)
  | .ref a => some (.ref a)
  | .type n => some (.ty n)
  | _ => none
theorem RelV.abs {x : V} {u : Value} (r : RelV x u) : absV u = some x := by
  cases x with
  | non => cases r; rfl
  | bl _ => cases r; rfl
  | int _ => obtain ⟨t, rfl⟩ := r; rfl
  | str _ => obtain ⟨t, rfl⟩ := r; rfl
  | byt _ => obtain ⟨t, rfl⟩ := r; rfl
  | flt _ => obtain ⟨t, rfl⟩ := r; rfl
  | ref _ => cases r; rfl
  | ty _ => cases r; rfl
theorem RelV.inj {x y : V} {u : Value} (r : RelV x u) (q : RelV y u) : x = y := Option.some.inj (r.abs.symm.trans q.abs)
theorem Vals.inj : ∀ {xs ys : List V} {us : List Value}, Vals xs us → Vals ys us → xs = ys
  | _, _, _, .nil, .nil => rfl
  | _, _, _, .cons r t, .cons r' t' => by rw [r.inj r', Vals.inj t t']
section
variable {X : Cx} {pins : List (Addr × Obj)} {σ : St} {H : Hp} {s : Shared} {a : Addr} {xs ys : List V}
theorem SqL.of {K : PySem.W.Frag} (h : H a = some (.lst xs)) : SqL K H a xs := .inl (.inl h)
theorem SqT.of {K : PySem.W.Frag} (h : H a = some (.tup xs)) : SqT K H a xs := .inl (.inl h)
theorem Inv.list (I : Inv X pins σ H s) (h : SqL X.K H a xs) : ∃ its : List Value, Vals xs its ∧ PlainL s.heap a its.toArray ∧ xs.length ≤ sizeLine := by
  rcases h with h | ⟨o, its, n, hk, hc, hd, hs, hz, r⟩
  · obtain ⟨z, its, n, r, e⟩ := h.ok I.hok
    exact ⟨its, r, ⟨_, n, e, rfl, rfl, rfl⟩, z⟩
  · refine ⟨its.toList, r, ⟨o, n, I.kIn a o hk, hc, hd, by simpa using hs⟩, ?_⟩
    have e := r.length
    simp only [Array.length_toList] at e
    omega
theorem Inv.tuple (I : Inv X pins σ H s) (h : SqT X.K H a xs) : ∃ its : List Value, Vals xs its ∧ IsTup s.heap a its.toArray ∧ xs.length ≤ sizeLine := by
  rcases h with h | ⟨o, its, n, hk, hc, hs, hz, r⟩
  · obtain ⟨z, its, r, p⟩ := h.ok I.hok
    exact ⟨its, r, p, z⟩
  · refine ⟨its.toList, r, ⟨o, I.kIn a o hk, hc, n, by simpa using hs⟩, ?_⟩
    have e := r.length
    simp only [Array.length_toList] at e
    omega
theorem Inv.list_inj (I : Inv X pins σ H s) (h : SqL X.K H a xs) (h' : SqL X.K H a ys) : xs = ys := by
  obtain ⟨its, r, ⟨o, n, e, _, _, d⟩, _⟩ := I.list h
  obtain ⟨its', r', ⟨o', n', e', _, _, d'⟩, _⟩ := I.list h'
  rw [e] at e'; cases e'
  rw [d] at d'
  injection d' with d1 _
  have : its = its' := by simpa using congrArg Array.toList d1
  subst this
  exact r.inj r'
theorem Inv.tuple_inj (I : Inv X pins σ H s) (h : SqT X.K H a xs) (h' : SqT X.K H a ys) : xs = ys := by
  obtain ⟨its, r, ⟨o, e, _, n, d⟩, _⟩ := I.tuple h
  obtain ⟨its', r', ⟨o', e', _, n', d'⟩, _⟩ := I.tuple h'
  rw [e] at e'; cases e'
  rw [d] at d'
  injection d' with d1 _
  have : its = its' := by simpa using congrArg Array.toList d1
  subst this
  exact r.inj r'
end
noncomputable abbrev Cx.wish (X : Cx) (E : Value → Shared → Prop) : Cx := { X with xe := E }
noncomputable abbrev Cx.nox (X : Cx) : Cx := X.wish fun _ _ => False
theorem Cx.Ok.wish {X : Cx} (ok : X.Ok) (E : Value → Shared → Prop) : (X.wish E).Ok :=
  ⟨ok.mod, ok.kind, ok.glob, ok.blt, ok.above, ok.inj, ok.has, ok.cab, ok.hd, ok.frames, ok.stk, ok.exf, ok.bs, ok.bsz, ok.noex, ok.exfs, ok.funs, ok.frf⟩
theorem Cx.Ok.unwish {X : Cx} {E : Value → Shared → Prop} (ok : (X.wish E).Ok) : X.Ok :=
  ⟨ok.mod, ok.kind, ok.glob, ok.blt, ok.above, ok.inj, ok.has, ok.cab, ok.hd, ok.frames, ok.stk, ok.exf, ok.bs, ok.bsz, ok.noex, ok.exfs, ok.funs, ok.frf⟩
section
variable {X : Cx} {pins : List (Addr × Obj)} {σ : St} {H : Hp} {s : Shared} {E : Value → Shared → Prop}
theorem Inv.wish (I : Inv X pins σ H s) (E : Value → Shared → Prop) : Inv (X.wish E) pins σ H s := ⟨I.ok.wish E, I.os, I.bare, I.base, I.loc, I.cell, I.free, I.freeC, I.pin, I.hok, I.len⟩
theorem Inv.unwish (I : Inv (X.wish E) pins σ H s) : Inv X pins σ H s := ⟨I.ok.unwish, I.os, I.bare, I.base, I.loc, I.cell, I.free, I.freeC, I.pin, I.hok, I.len⟩
theorem SP.unwish {D : Ends} {f : Flow} {s' : Shared} (h : SP (X.wish E) pins D f s') : SP X pins D f s' := by
  cases f with
  | next => obtain ⟨σ', H', I, q⟩ := h; exact ⟨σ', H', I.unwish, q⟩
  | brk => obtain ⟨σ', H', I, q⟩ := h; exact ⟨σ', H', I.unwish, q⟩
  | cont => obtain ⟨σ', H', I, q⟩ := h; exact ⟨σ', H', I.unwish, q⟩
  | ret u => obtain ⟨v, σ', H', I, r, q⟩ := h; exact ⟨v, σ', H', I.unwish, r, q⟩
theorem PSs.nox {st : List Stmt} {t : TS} (h : PSs X.nox st t) : PSs X st t := fun pins s σ H D I hw =>
  wpAny_mono (h pins s σ H D (I.wish _) hw) (fun _ _ q => q.unwish) fun _ _ z => False.elim z
end
section
variable {X : Cx} {st : Stmt} {rest : List Stmt} {t u : TS} {e : Expr} {te : TE} {pos : Pos}
noncomputable def tNext : TS := fun D σ H => D.nx σ H
noncomputable def tSeq (t u : TS) : TS := fun D σ H => t { D with nx := u D } σ H
theorem pss_nil : PSs X [] tNext := fun _ _ σ H _ I h => wpAny_execs_nil ⟨σ, H, I, h⟩
theorem pss_cons (h1 : PS X st t) (h2 : PSs X rest u) : PSs X (st :: rest) (tSeq t u) := by
  intro pins s σ H D I h
  refine wpAny_execs_cons (thn (h1 pins s σ H { D with nx := u D } I h) fun f s1 q => ?_)
  cases f with
  | next =>
    obtain ⟨σ', H', I', q⟩ := q
    exact h2 pins s1 σ' H' D I' q
  | ret v => exact q
  | brk => exact q
  | cont => exact q
theorem pss_one (h1 : PS X st t) : PSs X [st] t := by
  intro pins s σ H D I h
  refine wpAny_execs_cons (thn (h1 pins s σ H D I h) fun f s1 q => ?_)
  cases f with
  | next => exact wpAny_execs_nil q
  | ret v => exact q
  | brk => exact q
  | cont => exact q
theorem Inv.quiet {pins : List (Addr × Obj)} {σ : St} {H : Hp} {s : Shared} (I : Inv X pins σ H s) : interactive X.env = false := by simp [interactive, I.ok.kind]
noncomputable def tDrop (te : TE) : TS := fun D σ H => te σ H fun _ H1 => D.nx σ H1
theorem ps_expr (he : PE X e te) (hs : swapsWith e none pos.line X.env = pure false := by rfl) : PS X (.Expr e pos) (tDrop te) := by
  intro pins s σ H D I h
  exact wpAny_Expr_any (thn (he pins s σ H _ I h) fun v s1 hpat => by obtain ⟨x, H1, I1, r1, q1⟩ := hpat; exact ⟨σ, H1, I1, q1⟩) I.quiet hs
noncomputable def tRet (te : TE) : TS := fun D σ H => te σ H D.rt
theorem ps_ret (he : PE X e te) : PS X (.Return (some e) pos) (tRet te) := by
  intro pins s σ H D I h
  exact wpAny_Return_some (thn (he pins s σ H _ I h) fun v s1 hpat => by obtain ⟨x, H1, I1, r1, q1⟩ := hpat; exact ⟨x, σ, H1, I1, r1, q1⟩)
noncomputable def tIfS (c : TT) (t u : TS) : TS := fun D σ H => c σ H fun b H1 => if b = true then t D σ H1 else u D σ H1
theorem ps_if {c : Expr} {a b : List Stmt} {tc : TT} (hc : PT X c tc) (ha : PSs X a t) (hb : PSs X b u) : PS X (.If c a b pos) (tIfS tc t u) := by
  intro pins s σ H D I h
  refine wpAny_If (thn (hc pins s σ H _ I h) fun d s1 hpat => ?_)
  obtain ⟨H1, I1, q1⟩ := hpat
  cases d with
  | true => exact ha pins s1 σ H1 D I1 q1
  | false => exact hb pins s1 σ H1 D I1 q1
noncomputable def tNever : TS := fun _ _ _ => False
theorem pss_never {sts : List Stmt} : PSs X sts tNever := fun _ _ _ _ _ _ h => h.elim
end
noncomputable abbrev TG := V → St → Hp → (St → Hp → Prop) → Prop
noncomputable abbrev TGs := List V → St → Hp → (St → Hp → Prop) → Prop
noncomputable def PG (X : Cx) (target : Expr) (t : TG) : Prop :=
  ∀ (pins : List (Addr × Obj)) (s : Shared) (σ : St) (H : Hp) (v : V) (u : Value) (Q : St → Hp → Prop), Inv X pins σ H s → RelV v u → t v σ H Q →
    wpAny (model X.prog X.w) X.A (assign target X.env u) (fun _ s' => ∃ σ' H', Inv X pins σ' H' s' ∧ Q σ' H') X.xe s
noncomputable def PGs (X : Cx) (ts : List Expr) (t : TGs) : Prop :=
  ∀ (pins : List (Addr × Obj)) (s : Shared) (σ : St) (H : Hp) (vs : List V) (us : List Value) (Q : St → Hp → Prop), Inv X pins σ H s → Vals vs us → t vs σ H Q →
    wpAny (model X.prog X.w) X.A (assignInOrder ((assignEach ts X.env).map (·.2)) us) (fun _ s' => ∃ σ' H', Inv X pins σ' H' s' ∧ Q σ' H') X.xe s
noncomputable abbrev TSet := V → V → V → Hp → (Hp → Prop) → Prop
noncomputable abbrev TIp := V → V → Hp → VK → Prop
noncomputable def PIp (X : Cx) (op : Operator) (t : TIp) : Prop :=
  ∀ (pins : List (Addr × Obj)) (s : Shared) (σ : St) (H : Hp) (x y : V) (v u : Value) (Q : VK), Inv X pins σ H s → RelV x v → RelV y u → t x y H Q →
    wpAny (model X.prog X.w) X.A (inplaceOp op v u) (EP X pins σ Q) X.xe s
section
variable {X : Cx} {pos : Pos}
noncomputable def gName (i : Nat) : TG := fun v σ H Q => Q (σ.set i (some v)) H
theorem pg_name {i : Nat} {x : Str} (hN : X.N.Nodup) (hi : X.N[i]? = some x) (hx : Loc X.env.scope x) (hf : X.fn x = true ∨ X.env.scope.names.lookup x = some .local := by first | exact .inl rfl | exact .inr rfl | assumption) : PG X (.Name x pos) (gName i) := by
  intro pins s σ H v u Q I r h
  exact wpAny_assign_Name (store_ok I hN hi hx r (fun s' I' => ⟨_, H, I', h⟩) hf)
noncomputable def gNil : TGs := fun vs σ H Q => vs = [] ∧ Q σ H
noncomputable def gCons (t : TG) (u : TGs) : TGs := fun vs σ H Q => ∃ v r, vs = v :: r ∧ t v σ H fun σ' H' => u r σ' H' Q
theorem pgs_nil : PGs X [] gNil := by
  intro pins s σ H vs us Q I r h
  obtain ⟨e, h⟩ := h
  subst e
  cases r
  exact assignInOrder_nil ⟨σ, H, I, h⟩
theorem pgs_cons {e : Expr} {es : List Expr} {t : TG} {u : TGs} (h1 : PG X e t) (h2 : PGs X es u)
    (hs : (assignEach (e :: es) X.env).map (·.2) = assign e X.env :: (assignEach es X.env).map (·.2) := by rfl) : PGs X (e :: es) (gCons t u) := by
  intro pins s σ H vs us Q I r h
  obtain ⟨v, vr, e1, h⟩ := h
  subst e1
  cases r with
  | cons r rr =>
    rw [hs]
    refine assignInOrder_cons (thn (h1 pins s σ H _ _ _ I r h) fun _ s1 hpat => ?_)
    obtain ⟨σ1, H1, I1, q1⟩ := hpat
    exact h2 pins s1 σ1 H1 _ _ Q I1 rr q1
noncomputable def gTup (K : PySem.W.Frag) (n : Nat) (t : TGs) : TG := fun v σ H Q => ∃ a xs, v = .ref a ∧ SqT K H a xs ∧ xs.length = n ∧ t xs σ H Q
theorem pg_tup {es : List Expr} {k : Nat} {t : TGs} {n : Nat} (hc : X.calm = true) (h : PGs X es t)
    (hn : (assignEach es X.env).length = n := by rfl) (hst : (assignEach es X.env).findIdx? (·.1) = none := by rfl) : PG X (.Tuple es k pos) (gTup X.K n t) := by
  intro pins s σ H v u Q I r hw
  obtain ⟨a, xs, e1, hq, hl, hw⟩ := hw
  subst e1
  cases r
  obtain ⟨its, rv, ht, hz⟩ := I.tuple hq
  refine assign_Tuple_tuple (I.ok.hd hc) ht (by simp [hn, ← hl, rv.length]) hst fun h' hx => ?_
  have I1 : Inv X pins σ H { s with heap := h' } := I.kept (t' := s.toks) fun b o e => hx b o (Nat.ne_of_lt (Heap.lt_size e)) e
  exact h pins _ σ H xs _ Q I1 (by simpa using rv) hw
noncomputable def tAsg (te : TE) (g : TG) : TS := fun D σ H => te σ H fun x H1 => g x σ H1 D.nx
theorem ps_set {i : Nat} {x : Str} {e : Expr} {te : TE} {pos' : Pos} (hN : X.N.Nodup) (hi : X.N[i]? = some x) (hx : Loc X.env.scope x) (he : PE X e te) (hs : swapsWith e (some (.Name x pos')) pos.line X.env = pure false := by rfl) (hf : X.fn x = true ∨ X.env.scope.names.lookup x = some .local := by first | exact .inl rfl | exact .inr rfl | assumption) :
    PS X (.Assign [.Name x pos'] e pos) (tAsg te (gName i)) := by
  intro pins s σ H D I h
  refine wpAny_Assign_Name (thn (he pins s σ H _ I h) fun v s1 hpat => ?_) hs
  obtain ⟨y, H1, I1, r1, q1⟩ := hpat
  exact store_ok I1 hN hi hx r1 (fun s2 I2 => ⟨_, H1, I2, q1⟩) hf
noncomputable def tAug (i : Nat) (te : TE) (ti : TIp) : TS := fun D σ H => ∃ x, σ[i]? = some (some x) ∧ te σ H fun y H1 => ti x y H1 fun z H2 => D.nx (σ.set i (some z)) H2
theorem ps_aug {i : Nat} {x : Str} {e : Expr} {te : TE} {op : Operator} {ti : TIp} {pos' : Pos} (hN : X.N.Nodup) (hi : X.N[i]? = some x) (hx : Loc X.env.scope x) (he : PE X e te) (ho : PIp X op ti) (hf : X.fn x = true ∨ X.env.scope.names.lookup x = some .local := by first | exact .inl rfl | exact .inr rfl | assumption) :
    PS X (.AugAssign (.Name x pos') op e pos) (tAug i te ti) := by
  intro pins s σ H D I h
  obtain ⟨v, e1, h⟩ := h
  obtain ⟨m, hn, hl⟩ := I.loc
  have vis : Vis X.env.scope x := by rcases hx with k | k; exact .inl k; exact .inr (.inl k)
  obtain ⟨u, r, l⟩ := hl i x v hi e1 vis
  refine wpAny_AugAssign_Name ?_
  have go : wpAny (model X.prog X.w) X.A (eval e X.env) (fun w s₂ => wpAny (model X.prog X.w) X.A (inplaceOp op u w) (fun r s₃ => wpAny (model X.prog X.w) X.A (storeName X.env x r) (fun _ => SP X pins D .next) X.xe s₃) X.xe s₂) X.xe s := by
    refine thn (he pins s σ H _ I h) fun w s1 hpat => ?_
    obtain ⟨y, H1, I1, r1, q1⟩ := hpat
    refine thn (ho pins s1 σ H1 v y u w _ I1 r r1 q1) fun z s2 hpat => ?_
    obtain ⟨zv, H2, I2, r2, q2⟩ := hpat
    exact store_ok I2 hN hi hx r2 (fun s3 I3 => ⟨_, H2, I3, q2⟩) hf
  rcases l with ⟨hk, hm⟩ | ⟨hk, c, hc, hcell⟩
  · exact wpAny_loadName_local I.ok.kind hk hn hm go
  · rcases hk with hk | hk
    · exact wpAny_loadName_cell I.ok.kind hk hc hcell go
    · rcases hx with k | k
      · have : X.env.scope.names.lookup x = some .free := hk
        rw [k] at this; cases this
      · have : X.env.scope.names.lookup x = some .free := hk
        rw [k] at this; cases this
noncomputable def ipI (f : Int → Int → Int) : TIp := fun x y H Q => ∃ i j, x = .int i ∧ y = .int j ∧ Q (.int (f i j)) H
theorem ip_add : PIp X .Add (ipI fun i j => i + j) := by
  intro pins s σ H x y v u Q I r1 r2 h
  obtain ⟨i, j, e1, e2, q⟩ := h
  subst e1; subst e2
  obtain ⟨t, rfl⟩ := r1
  obtain ⟨t', rfl⟩ := r2
  exact iadd_int ⟨.int _, H, I.tok _, ⟨_, rfl⟩, q⟩
end
section
variable {X : Cx} {pos : Pos}
noncomputable def tWhile (c : TT) (tb : TS) : TS := fun D σ H => ∃ W : Nat → St → Hp → Prop, (∃ m, W m σ H) ∧ ∀ m σ H, W m σ H →
  c σ H fun b H1 => if b = true then ∃ N : St → Hp → Prop, (∀ σ' H', N σ' H' → ∃ m', m' < m ∧ W m' σ' H') ∧ tb { D with nx := N, ct := N, bk := D.nx } σ H1 else D.nx σ H1
theorem ps_while {c : Expr} {body : List Stmt} {tc : TT} {tb : TS} (hp : PassesOwn (model X.prog X.w) X.A X.env X.xe) (hc : PT X c tc) (hb : PSs X body tb) : PS X (.While c body [] pos) (tWhile tc tb) := by
  intro pins s σ H D I h
  obtain ⟨W, ⟨m0, w0⟩, turn⟩ := h
  refine wpAny_While (codeAny_whileLoop (fun n s' => ∃ σ' H', Inv X pins σ' H' s' ∧ W n σ' H') ?_ m0 ⟨σ, H, I, w0⟩)
  rintro n s1 ⟨σ1, H1, I1, w1⟩
  refine wpAny_passesOwn hp (thn (hc pins s1 σ1 H1 _ I1 (turn n σ1 H1 w1)) fun b s2 hpat => ?_)
  obtain ⟨H2, I2, q2⟩ := hpat
  cases b with
  | true =>
    obtain ⟨N, hN, q2⟩ := q2
    rw [if_pos rfl]
    refine wpAny_passesOwn hp (thn (hb pins s2 σ1 H2 _ I2 q2) fun f s3 q3 => ?_)
    cases f with
    | next =>
      obtain ⟨σ3, H3, I3, n3⟩ := q3
      obtain ⟨m', hm, w3⟩ := hN σ3 H3 n3
      exact ⟨m', hm, σ3, H3, I3, w3⟩
    | cont =>
      obtain ⟨σ3, H3, I3, n3⟩ := q3
      obtain ⟨m', hm, w3⟩ := hN σ3 H3 n3
      exact ⟨m', hm, σ3, H3, I3, w3⟩
    | brk => exact q3
    | ret v => exact q3
  | false =>
    rw [if_neg Bool.false_ne_true]
    exact wpAny_execs_nil ⟨σ1, H2, I2, q2⟩
end
set_option genInjectivity false in
structure It where
  go : Nat → Hp → Prop
  yld : Nat → Hp → V → Hp → Prop
  stop : Nat → Hp → Prop
noncomputable def FpOk (X : Cx) (pins : List (Addr × Obj)) (H : Hp) (b : Addr) : Prop :=
  H b = none ∧ b ≠ X.env.locals ∧ b ∉ X.fs ∧ (b ∈ X.ex ∨ X.s₀.heap.objs.size ≤ b) ∧ (∀ x c, X.env.cells.lookup x = some c → c ≠ b) ∧ ∀ p ∈ X.pn ++ pins, p.1 ≠ b
theorem Inv.fpOk {X : Cx} {pins : List (Addr × Obj)} {σ : St} {H H' : Hp} {s : Shared} {b : Addr} (I : Inv X pins σ H s) (hb : s.heap.objs.size ≤ b) (hn : H' b = none) : FpOk X pins H' b := by
  refine ⟨hn, Nat.ne_of_gt (Nat.lt_of_lt_of_le I.lt hb), I.nofs hb, .inr (Nat.le_trans I.sz hb), fun x c e z => ?_, fun p hp z => ?_⟩
  · obtain ⟨v, q⟩ := I.cell x c e
    exact absurd (Nat.lt_of_lt_of_le q.lt (by rw [z]; exact hb)) (Nat.lt_irrefl _)
  · exact absurd (Nat.lt_of_lt_of_le (Heap.lt_size (I.pin p hp).1) (by rw [z]; exact hb)) (Nat.lt_irrefl _)
set_option genInjectivity false in
structure Turn (P : Program) (w : World) (K : PySem.W.Frag) (tg : Expr) (J : It) (fp : List Addr) (it : Addr) (tn : Nat → Heap → Prop) : Prop where
  mem : it ∈ fp
  obj : ∀ i h, tn i h → ∀ b ∈ fp, ∃ o, h.get? b = some o ∧ ∀ v, o.data ≠ .cell v
  keep : ∀ i h h', tn i h → (∀ b ∈ fp, ∀ o, h.get? b = some o → h'.get? b = some o) → tn i h'
  item : ∀ (X : Cx), X.prog = P → X.w = w → X.K = K → X.calm = true → ∀ (i : Nat) (pins : List (Addr × Obj)) (s : Shared) (σ : St) (H : Hp) (E : Value → Shared → Prop), Inv X pins σ H s → (∀ b ∈ fp, FpOk X pins H b) → tn i s.heap → J.go i H →
    wpAny (model P w) X.A (pyNext (.ref it)) (fun r s1 => ∃ u, r = some u ∧
      wpAny (model P w) X.A (letOwnedTupleGo tg (.ref it) u) (fun _ s2 => ∃ x H', Inv X pins σ H' s2 ∧ RelV x u ∧ J.yld i H x H' ∧ tn (i + 1) s2.heap ∧ ∀ b ∈ fp, H' b = none) E s1) E s
  done : ∀ (X : Cx), X.prog = P → X.w = w → X.K = K → X.calm = true → ∀ (i : Nat) (pins : List (Addr × Obj)) (s : Shared) (σ : St) (H : Hp) (E : Value → Shared → Prop), Inv X pins σ H s → (∀ b ∈ fp, FpOk X pins H b) → tn i s.heap → J.stop i H →
    wpAny (model P w) X.A (pyNext (.ref it)) (fun r s1 => r = none ∧ Inv X pins σ H s1) E s
  self : ∀ (A : Around) (i : Nat) (s : Shared) (Q : Value → Shared → Prop) (E : Value → Shared → Prop), tn i s.heap → Q (.ref it) s → wpAny (model P w) A (pyIter (.ref it)) Q E s
noncomputable abbrev TI := St → Hp → (It → Hp → Prop) → Prop
noncomputable def PIE (X : Cx) (pins : List (Addr × Obj)) (σ : St) (tg : Expr) (R : It → Hp → Prop) (itv : Value) (s2 : Shared) : Prop :=
  ∃ (it : Addr) (fp : List Addr) (tn : Nat → Heap → Prop) (J : It) (H' : Hp), itv = .ref it ∧ Inv X pins σ H' s2 ∧ Turn X.prog X.w X.K tg J fp it tn ∧ tn 0 s2.heap ∧ (∀ b ∈ fp, FpOk X pins H' b) ∧ R J H'
noncomputable def PI (X : Cx) (tg iter : Expr) (wi : TI) : Prop :=
  ∀ (pins : List (Addr × Obj)) (s : Shared) (σ : St) (H : Hp) (R : It → Hp → Prop), Inv X pins σ H s → wi σ H R →
    wpAny (model X.prog X.w) X.A (eval iter X.env) (fun v s1 => wpAny (model X.prog X.w) X.A (pyIter v) (PIE X pins σ tg R) X.xe s1) X.xe s
theorem go_of {M : Model} {A : Around} {E : Value → Shared → Prop} {s : Shared} {tg : Expr} {it : Addr} {u : Value} {o : Obj} {n : String} {vs : Array Value} {Q : Unit → Shared → Prop} (ho : s.heap.get? it = some o) (hc : o.cls = .type n) (hd : o.data = .fields vs)
    (hn : ["enumerate", "zip", "dict_itemiterator", "dict_reverseitemiterator", "odict_iterator", "itertools.zip_longest", "itertools.pairwise"].contains n = false) (hQ : Q () s) : wpAny M A (letOwnedTupleGo tg (.ref it) u) Q E s := by
  unfold letOwnedTupleGo
  cases tg <;> first
    | exact wpAny_pure hQ
    | (cases u <;> first
        | exact wpAny_pure hQ
        | (refine wpAny_bind (wpAny_load ho ?_)
           rw [hc, hd]
           show wpAny M A (if (["enumerate", "zip", "dict_itemiterator", "dict_reverseitemiterator", "odict_iterator", "itertools.zip_longest", "itertools.pairwise"].contains n && vs[0]? == some (rawInt _)) = true then _ else _) Q E s
           rw [if_neg (by intro h; rw [hn, Bool.false_and] at h; cases h)]
           exact wpAny_pure hQ))
noncomputable def Itl (K : PySem.W.Frag) (a : Addr) : It :=
  ⟨fun i H => ∃ xs x, SqL K H a xs ∧ xs[i]? = some x, fun i H x H' => H' = H ∧ ∀ xs, SqL K H a xs → xs[i]? = some x, fun i H => ∃ xs, SqL K H a xs ∧ xs.length ≤ i⟩
noncomputable def Itt (K : PySem.W.Frag) (a : Addr) : It :=
  ⟨fun i H => ∃ xs x, SqT K H a xs ∧ xs[i]? = some x, fun i H x H' => H' = H ∧ ∀ xs, SqT K H a xs → xs[i]? = some x, fun i H => ∃ xs, SqT K H a xs ∧ xs.length ≤ i⟩
noncomputable def Itr (lo : Int) (n : Nat) : It := ⟨fun i _ => i < n, fun i H x H' => H' = H ∧ x = .int (lo + i), fun i _ => n ≤ i⟩
theorem turn_list {P : Program} {w : World} {K : PySem.W.Frag} {tg : Expr} (a it : Addr) : Turn P w K tg (Itl K a) [it] it (fun i h => h.IsListIter it a i) where
  mem := by simp
  obj := fun i h st b hb => by
    have e : b = it := by simpa using hb
    subst e
    obtain ⟨o, e, c, d⟩ := st
    exact ⟨o, e, fun v z => by rw [d] at z; cases z⟩
  keep := fun i h h' st k => st.at fun o e => k it (by simp) o e
  item := by
    intro X hP hw hK hc i pins s σ H E I hf st hg
    subst hP hw hK
    obtain ⟨xs, x, hq, hx⟩ := hg
    obtain ⟨its, rv, p, hz⟩ := I.list hq
    obtain ⟨u, hu, ru⟩ := rv.get hx
    obtain ⟨f0, f1, f2, f3, f4, f5⟩ := hf it (by simp)
    refine wpAny_pyNext_list_item st p.isList (x := u) (by simpa using hu) fun h' st' sb => ?_
    have I1 : Inv X pins σ H { s with heap := h' } := I.turned (t' := s.toks) (fun b o hb e => (sb.2 b hb).trans e) f0 f1 f3 f4 f5
    obtain ⟨o, e, c, d⟩ := id st'
    exact ⟨u, rfl, go_of (s := { s with heap := h' }) e c d (by decide) ⟨x, H, I1, ru, ⟨rfl, fun ys hy => by rw [I.list_inj hy hq]; exact hx⟩, st', fun b hb => (hf b hb).1⟩⟩
  done := by
    intro X hP hw hK hc i pins s σ H E I hf st hg
    subst hP hw hK
    obtain ⟨xs, hq, hx⟩ := hg
    obtain ⟨its, rv, p, hz⟩ := I.list hq
    obtain ⟨f0, f1, f2, f3, f4, f5⟩ := hf it (by simp)
    have hl := rv.length
    exact wpAny_pyNext_list_end (I.ok.hd hc) st p.isList (by simp; omega) fun h' eb => ⟨rfl, I.turned (t' := s.toks) (fun b o hb e => eb b o hb e) f0 f1 f3 f4 f5⟩
  self := fun _ _ _ _ _ st h => wpAny_pyIter_listiter st h
theorem turn_tuple {P : Program} {w : World} {K : PySem.W.Frag} {tg : Expr} (a it : Addr) : Turn P w K tg (Itt K a) [it] it (fun i h => h.IsTupleIter it a i) where
  mem := by simp
  obj := fun i h st b hb => by
    have e : b = it := by simpa using hb
    subst e
    obtain ⟨o, e, c, d⟩ := st
    exact ⟨o, e, fun v z => by rw [d] at z; cases z⟩
  keep := fun i h h' st k => st.at fun o e => k it (by simp) o e
  item := by
    intro X hP hw hK hc i pins s σ H E I hf st hg
    subst hP hw hK
    obtain ⟨xs, x, hq, hx⟩ := hg
    obtain ⟨its, rv, p, hz⟩ := I.tuple hq
    obtain ⟨u, hu, ru⟩ := rv.get hx
    obtain ⟨f0, f1, f2, f3, f4, f5⟩ := hf it (by simp)
    refine wpAny_pyNext_tuple_item st (show s.heap.IsTuple a its.toArray from p) (x := u) (by simpa using hu) fun h' st' sb => ?_
    have I1 : Inv X pins σ H { s with heap := h' } := I.turned (t' := s.toks) (fun b o hb e => (sb.2 b hb).trans e) f0 f1 f3 f4 f5
    obtain ⟨o, e, c, d⟩ := id st'
    exact ⟨u, rfl, go_of (s := { s with heap := h' }) e c d (by decide) ⟨x, H, I1, ru, ⟨rfl, fun ys hy => by rw [I.tuple_inj hy hq]; exact hx⟩, st', fun b hb => (hf b hb).1⟩⟩
  done := by
    intro X hP hw hK hc i pins s σ H E I hf st hg
    subst hP hw hK
    obtain ⟨xs, hq, hx⟩ := hg
    obtain ⟨its, rv, p, hz⟩ := I.tuple hq
    obtain ⟨f0, f1, f2, f3, f4, f5⟩ := hf it (by simp)
    have hl := rv.length
    exact wpAny_pyNext_tuple_end (I.ok.hd hc) st (show s.heap.IsTuple a its.toArray from p) (by simp; omega) fun h' eb => ⟨rfl, I.turned (t' := s.toks) (fun b o hb e => eb b o hb e) f0 f1 f3 f4 f5⟩
  self := fun _ _ _ _ _ st h => wpAny_pyIter_tupleiter st h
theorem turn_range {P : Program} {w : World} {K : PySem.W.Frag} {tg : Expr} (it : Addr) (lo : Int) (n : Nat) : Turn P w K tg (Itr lo n) [it] it (fun i h => IsRangeIter h it (lo + (i : Nat) * 1) ((n : Int) - (i : Nat)) 1) where
  mem := by simp
  obj := fun i h st b hb => by
    have e : b = it := by simpa using hb
    subst e
    exact ⟨_, st, fun v z => by
      have z' : Data.fields _ = Data.cell v := z
      cases z'⟩
  keep := fun i h h' st k => k it (by simp) _ st
  item := by
    intro X hP hw hK hc i pins s σ H E I hf st hg
    subst hP hw hK
    obtain ⟨f0, f1, f2, f3, f4, f5⟩ := hf it (by simp)
    have W := Walks.range (prog := X.prog) (w := X.w) (I.ok.hd hc) it lo 1 n
    refine W.item i s _ _ hg st fun v h' tk hv st' kk => ?_
    obtain ⟨t, rfl⟩ := hv
    have I1 : Inv X pins σ H { s with heap := h', toks := tk } := I.turned (fun b o hb e => kk b o (by simpa using hb) e) f0 f1 f3 f4 f5
    refine ⟨_, rfl, go_of (s := { s with heap := h', toks := tk }) (n := "range_iterator") st' rfl rfl (by decide) ⟨.int (lo + i), H, I1, ⟨t, ?_⟩, ⟨rfl, rfl⟩, st', fun b hb => (hf b hb).1⟩⟩
    rw [Int.mul_one]
  done := by
    intro X hP hw hK hc i pins s σ H E I hf st hg
    subst hP hw hK
    obtain ⟨f0, f1, f2, f3, f4, f5⟩ := hf it (by simp)
    exact wpAny_pyNext_range_end (I.ok.hd hc) st (by have : n ≤ i := hg; omega) fun h' eb => ⟨rfl, I.turned (t' := s.toks) (fun b o hb e => eb b o hb e) f0 f1 f3 f4 f5⟩
  self := fun _ _ _ _ _ st h => wpAny_pyIter_rangeiter st h
end L2
namespace L2
open PySem PySem.Spec PyProof.Rows
section
variable {X : Cx} {tg : Expr}
noncomputable def iList (K : PySem.W.Frag) (tl : TE) : TI := fun σ H R => tl σ H fun x H1 => ∃ a, x = .ref a ∧ (∃ xs, SqL K H1 a xs) ∧ R (Itl K a) H1
noncomputable def iTup (K : PySem.W.Frag) (tl : TE) : TI := fun σ H R => tl σ H fun x H1 => ∃ a, x = .ref a ∧ (∃ xs, SqT K H1 a xs) ∧ R (Itt K a) H1
theorem pi_list {l : Expr} {tl : TE} (hl : PE X l tl) : PI X tg l (iList X.K tl) := by
  intro pins s σ H R I h
  refine thn (hl pins s σ H _ I h) fun v s1 hpat => ?_
  obtain ⟨x, H1, I1, r1, q1⟩ := hpat
  obtain ⟨a, e, ⟨xs, hq⟩, q⟩ := q1
  subst e
  cases r1
  obtain ⟨its, rv, p, hz⟩ := I1.list hq
  refine wpAny_pyIter_list p.isList ?_
  refine ⟨s1.heap.objs.size, [s1.heap.objs.size], _, _, H1, rfl, I1.kept (t' := s1.toks) fun b o e => Heap.get?_push_of_some _ e, turn_list a _, ⟨_, Heap.get?_push_size _ rfl, rfl, rfl⟩, fun b hb => ?_, q⟩
  have e : b = s1.heap.objs.size := by simpa using hb
  subst e
  exact I1.fpOk (Nat.le_refl _) (I1.hok.fresh (Nat.le_refl _))
theorem pi_tup {l : Expr} {tl : TE} (hl : PE X l tl) : PI X tg l (iTup X.K tl) := by
  intro pins s σ H R I h
  refine thn (hl pins s σ H _ I h) fun v s1 hpat => ?_
  obtain ⟨x, H1, I1, r1, q1⟩ := hpat
  obtain ⟨a, e, ⟨xs, hq⟩, q⟩ := q1
  subst e
  cases r1
  obtain ⟨its, rv, p, hz⟩ := I1.tuple hq
  refine wpAny_pyIter_tuple (show s1.heap.IsTuple a its.toArray from p) ?_
  refine ⟨s1.heap.objs.size, [s1.heap.objs.size], _, _, H1, rfl, I1.kept (t' := s1.toks) fun b o e => Heap.get?_push_of_some _ e, turn_tuple a _, ⟨_, Heap.get?_push_size _ rfl, rfl, rfl⟩, fun b hb => ?_, q⟩
  have e : b = s1.heap.objs.size := by simpa using hb
  subst e
  exact I1.fpOk (Nat.le_refl _) (I1.hok.fresh (Nat.le_refl _))
theorem range_it {pins : List (Addr × Obj)} {σ : St} {H : Hp} {s : Shared} {R : It → Hp → Prop} {E : Value → Shared → Prop} {lo hi : Int} {t u v : Tok} {tk : Nat} (I : Inv X pins σ H s) (h1 : -(2 ^ 62) ≤ lo) (h2 : lo < 2 ^ 62) (h3 : -(2 ^ 62) ≤ hi) (h4 : hi < 2 ^ 62)
    (q : R (Itr lo (hi - lo).toNat) H) : wpAny (model X.prog X.w) X.A (pyIter (.ref s.heap.objs.size)) (PIE X pins σ tg R) E { s with heap := s.heap.push { cls := .type "range", data := .fields #[.int lo t, .int hi u, .int 1 v] }, toks := tk } := by
  refine wpAny_pyIter_range (IsRange.new ..) (small_one h1 h2 h3 h4) ?_
  have I1 : Inv X pins σ H { s with heap := s.heap.push { cls := .type "range", data := .fields #[.int lo t, .int hi u, .int 1 v] }, toks := tk } := I.kept fun b o e => Heap.get?_push_of_some _ e
  refine ⟨(s.heap.push { cls := .type "range", data := .fields #[.int lo t, .int hi u, .int 1 v] }).objs.size, [(s.heap.push { cls := .type "range", data := .fields #[.int lo t, .int hi u, .int 1 v] }).objs.size], _, _, H, rfl,
    I1.kept (t' := tk) fun b o e => Heap.get?_push_of_some _ e, turn_range _ lo (hi - lo).toNat, ?_, fun b hb => ?_, q⟩
  · have e1 : lo + ((0 : Nat) : Int) * 1 = lo := by simp
    have e2 : (((hi - lo).toNat : Nat) : Int) - ((0 : Nat) : Int) = Builtin.Range.rangeSize lo hi 1 := by rw [rangeSize_one]; split <;> omega
    show IsRangeIter _ _ (lo + ((0 : Nat) : Int) * 1) ((((hi - lo).toNat : Nat) : Int) - ((0 : Nat) : Int)) 1
    rw [e1, e2]
    exact Heap.get?_push_size _ rfl
  · have e : b = (s.heap.push { cls := .type "range", data := .fields #[.int lo t, .int hi u, .int 1 v] }).objs.size := by simpa using hb
    subst e
    exact I1.fpOk (Nat.le_refl _) (I1.hok.fresh (Nat.le_refl _))
noncomputable def iRng1 (ta : TA) : TI := fun σ H R => ta σ H fun vs H1 => ∃ j : Int, vs = [.int j] ∧ -(2 ^ 62) ≤ j ∧ j < 2 ^ 62 ∧ R (Itr 0 j.toNat) H1
theorem pi_range1 {a : Expr} {ta : TA} {p pos : Pos} (hg : Gl X "range") (hm : X.mg "range" = none) (ha : PA X [a] ta) (hs : starEach [a] X.env = [(false, eval a X.env)] := by rfl) : PI X tg (.Call (.Name "range" p) [a] [] pos) (iRng1 ta) := by
  intro pins s σ H R I h
  refine Call_ (ld_blt I hg hm boot_range (PyProof.Rows.callWith_type1 (thn (ha pos pins s σ H _ I h) fun us s1 hpat => ?_) hs rfl))
  obtain ⟨vs, H1, I1, r1, q1⟩ := hpat
  obtain ⟨j, e, q1, q2, q⟩ := q1
  subst e
  cases r1 with
  | cons r rr =>
    cases rr
    obtain ⟨t, rfl⟩ := r
    exact call_range_1 (range_it I1 (by omega) (by omega) q1 q2 (by simpa using q))
noncomputable def tFor (wi : TI) (g : TG) (tb : TS) : TS := fun D σ H => wi σ H fun J H1 => ∃ W : Nat → Nat → St → Hp → Prop, (∃ m, W 0 m σ H1) ∧ ∀ i m σ H, W i m σ H →
  (J.stop i H ∧ D.nx σ H) ∨ (J.go i H ∧ ∃ N : St → Hp → Prop, (∀ σ' H', N σ' H' → ∃ m', m' < m ∧ W (i + 1) m' σ' H') ∧ ∀ x H', J.yld i H x H' → g x σ H' fun σ2 H2 => tb { D with nx := N, ct := N, bk := D.nx } σ2 H2)
noncomputable def pinsAt (fp : List Addr) (h : Heap) : List (Addr × Obj) := fp.filterMap fun b => (h.get? b).map fun o => (b, o)
theorem mem_pinsAt {fp : List Addr} {h : Heap} {b : Addr} {o : Obj} (hb : b ∈ fp) (e : h.get? b = some o) : (b, o) ∈ pinsAt fp h := List.mem_filterMap.mpr ⟨b, hb, by rw [e]; rfl⟩
theorem of_pinsAt {fp : List Addr} {h : Heap} {p : Addr × Obj} (hp : p ∈ pinsAt fp h) : p.1 ∈ fp ∧ h.get? p.1 = some p.2 := by
  obtain ⟨b, hb, e⟩ := List.mem_filterMap.mp hp
  cases q : h.get? b with
  | none => rw [q] at e; cases e
  | some o =>
    rw [q] at e
    have e' : (b, o) = p := Option.some.inj e
    subst e'
    exact ⟨hb, q⟩
theorem Inv.pinned {pins : List (Addr × Obj)} {σ : St} {H : Hp} {s : Shared} {fp : List Addr} (I : Inv X pins σ H s) (hf : ∀ b ∈ fp, FpOk X pins H b) (ho : ∀ b ∈ fp, ∃ o, s.heap.get? b = some o ∧ ∀ v, o.data ≠ .cell v) : Inv X (pins ++ pinsAt fp s.heap) σ H s :=
  I.pins_of fun p hp => (List.mem_append.mp hp).elim (fun z => I.pin p (List.mem_append_right _ z)) fun z => by
    obtain ⟨hb, e⟩ := of_pinsAt z
    obtain ⟨f0, f1, f2, _⟩ := hf p.1 hb
    obtain ⟨o, e', d⟩ := ho p.1 hb
    rw [e] at e'; cases e'
    exact ⟨e, f0, f1, f2, d⟩
theorem Inv.unpinned {pins pl : List (Addr × Obj)} {σ : St} {H : Hp} {s : Shared} (I : Inv X (pins ++ pl) σ H s) : Inv X pins σ H s := I.pins_of fun p hp => I.pin p (List.mem_append_right _ (List.mem_append_left _ hp))
theorem ps_for {iter : Expr} {body : List Stmt} {wi : TI} {g : TG} {tb : TS} {pos : Pos} (hp : PassesOwn (model X.prog X.w) X.A X.env X.xe) (hc : X.calm = true) (hi : PI X tg iter wi) (hg : PG X tg g) (hb : PSs X body tb)
    (hs : ∀ x, foldedSetIterable iter X.env x = pure x := by intro _; rfl) : PS X (.For tg iter body [] pos) (tFor wi g tb) := by
  intro pins s σ H D I h
  refine wpAny_For (thn (hi pins s σ H _ I h) fun v s1 h1 => thn h1 fun itv s2 h2 => ?_) hs
  obtain ⟨it, fp, tn, J, H2, e, I2, T, st2, f2, W, ⟨m0, w0⟩, turn⟩ := h2
  subst e
  have stat : ∀ {H' : Hp}, (∀ b ∈ fp, H' b = none) → ∀ b ∈ fp, FpOk X pins H' b := fun hn b hb => ⟨hn b hb, (f2 b hb).2⟩
  refine codeAny_forLoop_any (fun n s' => ∃ i σ' H', Inv X pins σ' H' s' ∧ tn i s'.heap ∧ (∀ b ∈ fp, H' b = none) ∧ W i n σ' H') ?_ m0 ⟨0, σ, H2, I2, st2, fun b hb => (f2 b hb).1, w0⟩
  rintro n s3 ⟨i, σ3, H3, I3, st3, fr3, w3⟩
  rcases turn i n σ3 H3 w3 with ⟨stop, qn⟩ | ⟨go, N, hN, step⟩
  · refine wpAny_passesOwn hp (thn (T.done X rfl rfl rfl hc i pins s3 σ3 H3 X.xe I3 (stat fr3) st3 stop) fun r s4 hpat => ?_)
    obtain ⟨hr, I4⟩ := hpat
    subst hr
    exact wpAny_execs_nil ⟨σ3, H3, I4, qn⟩
  · refine wpAny_passesOwn hp (thn (T.item X rfl rfl rfl hc i pins s3 σ3 H3 X.xe I3 (stat fr3) st3 go) fun r s4 hpat => ?_)
    obtain ⟨u, hr, h4⟩ := hpat
    subst hr
    refine wpAny_passesOwn hp (thn h4 fun _ s5 hpat => ?_)
    obtain ⟨x, H5, I5, r5, y5, st5, fr5⟩ := hpat
    have I5' := I5.pinned (stat fr5) (T.obj _ _ st5)
    refine wpAny_passesOwn hp (thn (hg _ s5 σ3 H5 x u _ I5' r5 (step x H5 y5)) fun _ s6 hpat => ?_)
    obtain ⟨σ6, H6, I6, q6⟩ := hpat
    refine wpAny_passesOwn hp (thn (hb _ s6 σ6 H6 _ I6 q6) fun f s7 q7 => ?_)
    have again : ∀ {σ7 : St} {H7 : Hp}, Inv X (pins ++ pinsAt fp s5.heap) σ7 H7 s7 → N σ7 H7 → ∃ m, m < n ∧ ∃ i σ' H', Inv X pins σ' H' s7 ∧ tn i s7.heap ∧ (∀ b ∈ fp, H' b = none) ∧ W i m σ' H' := fun {σ7 H7} I7 n7 => by
      obtain ⟨m', hm, w7⟩ := hN σ7 H7 n7
      refine ⟨m', hm, i + 1, σ7, H7, I7.unpinned, T.keep _ _ _ st5 fun b hb o e => (I7.pin (b, o) (List.mem_append_right _ (List.mem_append_right _ (mem_pinsAt hb e)))).1, fun b hb => ?_, w7⟩
      obtain ⟨o, e, d⟩ := T.obj _ _ st5 b hb
      exact (I7.pin (b, o) (List.mem_append_right _ (List.mem_append_right _ (mem_pinsAt hb e)))).2.1
    cases f with
    | next => obtain ⟨σ7, H7, I7, n7⟩ := q7; exact again I7 n7
    | cont => obtain ⟨σ7, H7, I7, n7⟩ := q7; exact again I7 n7
    | brk => obtain ⟨σ7, H7, I7, q7⟩ := q7; exact ⟨σ7, H7, I7.unpinned, q7⟩
    | ret v => obtain ⟨x7, σ7, H7, I7, r7, q7⟩ := q7; exact ⟨x7, σ7, H7, I7.unpinned, r7, q7⟩
end
theorem for_list {K : PySem.W.Frag} {a : Addr} {xs : List V} {g : TG} {tb : TS} {D : Ends} {σ : St} {H : Hp} (Pv : Nat → St → Hp → Prop) (h0 : Pv 0 σ H) (hl : ∀ i σ H, i ≤ xs.length → Pv i σ H → SqL K H a xs)
    (hs : ∀ i x σ H, xs[i]? = some x → Pv i σ H → g x σ H fun σ2 H2 => tb { D with nx := Pv (i + 1), ct := Pv (i + 1), bk := D.nx } σ2 H2) (hd : ∀ σ H, Pv xs.length σ H → D.nx σ H) :
    ∃ W : Nat → Nat → St → Hp → Prop, (∃ m, W 0 m σ H) ∧ ∀ i m σ H, W i m σ H →
      ((Itl K a).stop i H ∧ D.nx σ H) ∨ ((Itl K a).go i H ∧ ∃ N : St → Hp → Prop, (∀ σ' H', N σ' H' → ∃ m', m' < m ∧ W (i + 1) m' σ' H') ∧ ∀ x H', (Itl K a).yld i H x H' → g x σ H' fun σ2 H2 => tb { D with nx := N, ct := N, bk := D.nx } σ2 H2) := by
  refine ⟨fun i m σ H => m = xs.length - i ∧ i ≤ xs.length ∧ Pv i σ H, ⟨xs.length, by simp, Nat.zero_le _, h0⟩, ?_⟩
  rintro i m σ H ⟨rfl, hi, p⟩
  have q := hl i σ H hi p
  by_cases hlt : i < xs.length
  · refine .inr ⟨⟨xs, xs[i], q, by simp [hlt]⟩, Pv (i + 1), fun σ' H' p' => ⟨xs.length - (i + 1), by omega, rfl, hlt, p'⟩, fun x H' y => ?_⟩
    obtain ⟨e, y⟩ := y
    subst e
    exact hs i x σ _ (y xs q) p
  · have e : i = xs.length := by omega
    subst e
    exact .inl ⟨⟨xs, q, Nat.le_refl _⟩, hd σ H p⟩
theorem for_tup {K : PySem.W.Frag} {a : Addr} {xs : List V} {g : TG} {tb : TS} {D : Ends} {σ : St} {H : Hp} (Pv : Nat → St → Hp → Prop) (h0 : Pv 0 σ H) (hl : ∀ i σ H, i ≤ xs.length → Pv i σ H → SqT K H a xs)
    (hs : ∀ i x σ H, xs[i]? = some x → Pv i σ H → g x σ H fun σ2 H2 => tb { D with nx := Pv (i + 1), ct := Pv (i + 1), bk := D.nx } σ2 H2) (hd : ∀ σ H, Pv xs.length σ H → D.nx σ H) :
    ∃ W : Nat → Nat → St → Hp → Prop, (∃ m, W 0 m σ H) ∧ ∀ i m σ H, W i m σ H →
      ((Itt K a).stop i H ∧ D.nx σ H) ∨ ((Itt K a).go i H ∧ ∃ N : St → Hp → Prop, (∀ σ' H', N σ' H' → ∃ m', m' < m ∧ W (i + 1) m' σ' H') ∧ ∀ x H', (Itt K a).yld i H x H' → g x σ H' fun σ2 H2 => tb { D with nx := N, ct := N, bk := D.nx } σ2 H2) := by
  refine ⟨fun i m σ H => m = xs.length - i ∧ i ≤ xs.length ∧ Pv i σ H, ⟨xs.length, by simp, Nat.zero_le _, h0⟩, ?_⟩
  rintro i m σ H ⟨rfl, hi, p⟩
  have q := hl i σ H hi p
  by_cases hlt : i < xs.length
  · refine .inr ⟨⟨xs, xs[i], q, by simp [hlt]⟩, Pv (i + 1), fun σ' H' p' => ⟨xs.length - (i + 1), by omega, rfl, hlt, p'⟩, fun x H' y => ?_⟩
    obtain ⟨e, y⟩ := y
    subst e
    exact hs i x σ _ (y xs q) p
  · have e : i = xs.length := by omega
    subst e
    exact .inl ⟨⟨xs, q, Nat.le_refl _⟩, hd σ H p⟩
theorem for_range {lo : Int} {n : Nat} {g : TG} {tb : TS} {D : Ends} {σ : St} {H : Hp} (Pv : Nat → St → Hp → Prop) (h0 : Pv 0 σ H)
    (hs : ∀ i σ H, i < n → Pv i σ H → g (.int (lo + i)) σ H fun σ2 H2 => tb { D with nx := Pv (i + 1), ct := Pv (i + 1), bk := D.nx } σ2 H2) (hd : ∀ σ H, Pv n σ H → D.nx σ H) :
    ∃ W : Nat → Nat → St → Hp → Prop, (∃ m, W 0 m σ H) ∧ ∀ i m σ H, W i m σ H →
      ((Itr lo n).stop i H ∧ D.nx σ H) ∨ ((Itr lo n).go i H ∧ ∃ N : St → Hp → Prop, (∀ σ' H', N σ' H' → ∃ m', m' < m ∧ W (i + 1) m' σ' H') ∧ ∀ x H', (Itr lo n).yld i H x H' → g x σ H' fun σ2 H2 => tb { D with nx := N, ct := N, bk := D.nx } σ2 H2) := by
  refine ⟨fun i m σ H => m = n - i ∧ i ≤ n ∧ Pv i σ H, ⟨n, by simp, Nat.zero_le _, h0⟩, ?_⟩
  rintro i m σ H ⟨rfl, hi, p⟩
  by_cases hlt : i < n
  · refine .inr ⟨hlt, Pv (i + 1), fun σ' H' p' => ⟨n - (i + 1), by omega, rfl, hlt, p'⟩, fun x H' y => ?_⟩
    obtain ⟨e, y⟩ := y
    subst e y
    exact hs i σ _ hlt p
  · have e : i = n := by omega
    subst e
    exact .inl ⟨Nat.le_refl _, hd σ H p⟩
theorem while_by {c : TT} {tb : TS} {D : Ends} {σ : St} {H : Hp} (Pv : St → Hp → Prop) (μ : St → Hp → Nat) (h0 : Pv σ H)
    (hs : ∀ σ H, Pv σ H → c σ H fun b H1 => if b = true then tb { D with nx := fun σ' H' => Pv σ' H' ∧ μ σ' H' < μ σ H, ct := fun σ' H' => Pv σ' H' ∧ μ σ' H' < μ σ H, bk := D.nx } σ H1 else D.nx σ H1)
    (mono : ∀ σ H Q Q', (∀ b H1, Q b H1 → Q' b H1) → c σ H Q → c σ H Q') : tWhile c tb D σ H := by
  refine ⟨fun m σ H => m = μ σ H ∧ Pv σ H, ⟨_, rfl, h0⟩, ?_⟩
  rintro m σ H ⟨rfl, p⟩
  refine mono σ H _ _ (fun b H1 q => ?_) (hs σ H p)
  cases b with
  | true => exact ⟨_, fun σ' H' ⟨p', l⟩ => ⟨_, l, rfl, p'⟩, q⟩
  | false => exact q
end L2
namespace L2
open PySem PySem.Spec PyProof.Rows
noncomputable abbrev R2 := V → V → Hp → VK → Prop
noncomputable def OpR (X : Cx) (f : Value → Value → Sem Value) (r : R2) : Prop :=
  ∀ (pins : List (Addr × Obj)) (s : Shared) (σ : St) (H : Hp) (x y : V) (v u : Value) (Q : VK), Inv X pins σ H s → RelV x v → RelV y u → r x y H Q →
    wpAny (model X.prog X.w) X.A (f v u) (EP X pins σ Q) X.xe s
noncomputable def CallR (X : Cx) (f : Value) (r : List V → Hp → VK → Prop) : Prop :=
  ∀ (pins : List (Addr × Obj)) (s : Shared) (σ : St) (H : Hp) (xs : List V) (us : List Value) (Q : VK), Inv X pins σ H s → Vals xs us → r xs H Q →
    wpAny (model X.prog X.w) X.A (call f us) (EP X pins σ Q) X.xe s
noncomputable def TruR (X : Cx) (r : V → Hp → (Bool → Hp → Prop) → Prop) : Prop :=
  ∀ (pins : List (Addr × Obj)) (s : Shared) (σ : St) (H : Hp) (x : V) (v : Value) (Q : Bool → Hp → Prop), Inv X pins σ H s → RelV x v → r x H Q →
    wpAny (model X.prog X.w) X.A (truthy v) (TP X pins σ Q) X.xe s
noncomputable def tOp (r : R2) (ta tb : TE) : TE := fun σ H Q => ta σ H fun x H1 => tb σ H1 fun y H2 => r x y H2 Q
noncomputable def rI (C : Int → Int → Prop) (g : Int → Int → V) : R2 := fun x y H Q => ∃ i j, x = .int i ∧ y = .int j ∧ C i j ∧ Q (g i j) H
noncomputable def rI0 (g : Int → Int → V) : R2 := fun x y H Q => ∃ i j, x = .int i ∧ y = .int j ∧ Q (g i j) H
section
variable {X : Cx} {a b c : Expr} {ta tb tc : TE} {pos : Pos}
theorem binT (ha : PE X a ta) (hb : PE X b tb) {pins : List (Addr × Obj)} {s : Shared} {σ : St} {H : Hp} {R : V → V → Hp → Prop} (I : Inv X pins σ H s)
    (h : ta σ H fun x H1 => tb σ H1 fun y H2 => R x y H2) {Q : Value → Shared → Prop} {f : Value → Value → Sem Value}
    (hf : ∀ v u s2 x y H2, Inv X pins σ H2 s2 → RelV x v → RelV y u → R x y H2 → wpAny (model X.prog X.w) X.A (f v u) Q X.xe s2) :
    wpAny (model X.prog X.w) X.A (eval a X.env) (fun v s₁ => wpAny (model X.prog X.w) X.A (eval b X.env) (fun u s₂ => wpAny (model X.prog X.w) X.A (f v u) Q X.xe s₂) X.xe s₁) X.xe s := by
  refine thn (ha pins s σ H _ I h) fun v s1 hpat => ?_
  obtain ⟨x, H1, I1, r1, q1⟩ := hpat
  refine thn (hb pins s1 σ H1 _ I1 q1) fun u s2 hpat => ?_
  obtain ⟨y, H2, I2, r2, q2⟩ := hpat
  exact hf v u s2 x y H2 I2 r1 r2 q2
theorem pe_op {op : Operator} {r : R2} (ho : OpR X (binaryOp op) r) (ha : PE X a ta) (hb : PE X b tb) : PE X (.BinOp a op b pos) (tOp r ta tb) := by
  intro pins s σ H Q I h
  exact wpAny_BinOp (binT ha hb I h fun v u s2 x y H2 I2 rx ry q => ho pins s2 σ H2 x y v u Q I2 rx ry q)
theorem opI {f : Value → Value → Sem Value} {C : Int → Int → Prop} {g : Int → Int → Int}
    (rule : ∀ (i j : Int) (t u : Tok) (s : Shared) (Q : Value → Shared → Prop) (E : Value → Shared → Prop), C i j → Q (.int (g i j) s.toks) { s with toks := s.toks + 1 } → wpAny (model X.prog X.w) X.A (f (.int i t) (.int j u)) Q E s) :
    OpR X f (rI C fun i j => .int (g i j)) := by
  intro pins s σ H x y v u Q I rx ry h
  obtain ⟨i, j, rfl, rfl, hc, q⟩ := h
  obtain ⟨t, rfl⟩ := rx
  obtain ⟨t', rfl⟩ := ry
  exact rule i j t t' s _ _ hc ⟨.int (g i j), H, I.tok _, ⟨_, rfl⟩, q⟩
theorem opI0 {f : Value → Value → Sem Value} {g : Int → Int → Int}
    (rule : ∀ (i j : Int) (t u : Tok) (s : Shared) (Q : Value → Shared → Prop) (E : Value → Shared → Prop), Q (.int (g i j) s.toks) { s with toks := s.toks + 1 } → wpAny (model X.prog X.w) X.A (f (.int i t) (.int j u)) Q E s) :
    OpR X f (rI0 fun i j => .int (g i j)) := by
  intro pins s σ H x y v u Q I rx ry h
  obtain ⟨i, j, rfl, rfl, q⟩ := h
  obtain ⟨t, rfl⟩ := rx
  obtain ⟨t', rfl⟩ := ry
  exact rule i j t t' s _ _ ⟨.int (g i j), H, I.tok _, ⟨_, rfl⟩, q⟩
theorem opB0 {f : Value → Value → Sem Value} {g : Int → Int → Bool}
    (rule : ∀ (i j : Int) (t u : Tok) (s : Shared) (Q : Value → Shared → Prop) (E : Value → Shared → Prop), Q (.bool (g i j)) s → wpAny (model X.prog X.w) X.A (f (.int i t) (.int j u)) Q E s) :
    OpR X f (rI0 fun i j => .bl (g i j)) := by
  intro pins s σ H x y v u Q I rx ry h
  obtain ⟨i, j, rfl, rfl, q⟩ := h
  obtain ⟨t, rfl⟩ := rx
  obtain ⟨t', rfl⟩ := ry
  exact rule i j t t' s _ _ ⟨.bl (g i j), H, I, rfl, q⟩
noncomputable def CDiv (i j : Int) : Prop := 0 < j ∧ j < 1073741824
noncomputable def CPow (i j : Int) : Prop := 0 ≤ j ∧ j ≤ 1000000 ∧ i.natAbs < 2 ^ 64
noncomputable def CMul (i j : Int) : Prop := (-(2 ^ 64) < i ∧ i < 2 ^ 64) ∨ (-(2 ^ 64) < j ∧ j < 2 ^ 64)
theorem CMul.ok {i j : Int} (h : CMul i j) : IntMulOk i j := by
  rcases h with ⟨h1, h2⟩ | ⟨h1, h2⟩
  · exact .of_left (intBits_le_64 h1 h2)
  · exact .of_right (intBits_le_64 h1 h2)
theorem op_add : OpR X (binaryOp .Add) (rI0 fun i j => .int (i + j)) := opI0 fun _ _ _ _ _ _ _ q => add_int q
theorem op_sub : OpR X (binaryOp .Sub) (rI0 fun i j => .int (i - j)) := opI0 fun _ _ _ _ _ _ _ q => sub_int q
theorem op_mul : OpR X (binaryOp .Mult) (rI CMul fun i j => .int (i * j)) := opI fun _ _ _ _ _ _ _ hc q => mul_int q hc.ok
theorem op_fdiv : OpR X (binaryOp .FloorDiv) (rI CDiv fun i j => .int (i / j)) := opI fun i j _ _ _ _ _ hc q => by
  have h1 : (0 : Int) < j := hc.1
  have h2 : j < 1073741824 := hc.2
  exact floordiv_int (by omega) (by rw [Int.fdiv_eq_ediv_of_nonneg i (by omega)]; exact q) (.inl (PyProof.noPylong_small (by omega)))
theorem op_mod : OpR X (binaryOp .Mod) (rI (fun _ j => 0 < j) fun i j => .int (i % j)) := opI fun i j _ _ _ _ _ hc q => by
  have h1 : (0 : Int) < j := hc
  exact mod_int' (by omega) (by rw [Int.fmod_eq_emod_of_nonneg i (by omega)]; exact q)
theorem op_pow : OpR X (binaryOp .Pow) (rI CPow fun i j => .int (i ^ j.toNat)) := opI fun _ _ _ _ _ _ _ hc q => pow_int_small hc.1 hc.2.1 hc.2.2 q
end
noncomputable def scal : V → V → Bool
  | .non, .non => true | .non, .int _ => true | .int _, .non => true | .non, .bl _ => true | .bl _, .non => true | .non, .str _ => true | .str _, .non => true
  | .int _, .int _ => true | .bl _, .bl _ => true | .str _, .str _ => true | .byt _, .byt _ => true
  | .int _, .str _ => true | .str _, .int _ => true | .bl _, .str _ => true | .str _, .bl _ => true
  | _, _ => false
noncomputable def rEq : R2 := fun x y H Q => scal x y = true ∧ Q (.bl (decide (x = y))) H
noncomputable def rNe : R2 := fun x y H Q => scal x y = true ∧ Q (.bl (!decide (x = y))) H
theorem dec_int {i j : Int} : decide (V.int i = V.int j) = (i == j) := by
  rw [Bool.eq_iff_iff]
  simp
theorem dec_bl {i j : Bool} : decide (V.bl i = V.bl j) = (i == j) := by
  rw [Bool.eq_iff_iff]
  simp
theorem dec_str {i j : Str} : decide (V.str i = V.str j) = (i == j) := by
  rw [Bool.eq_iff_iff]
  simp
theorem dec_byt {i j : Array UInt8} : decide (V.byt i = V.byt j) = (i.toList == j.toList) := by
  rw [Bool.eq_iff_iff]
  cases i
  cases j
  simp
section
variable {X : Cx} {a b c : Expr} {ta tb tc : TE} {pos : Pos}
theorem fin_bl {pins : List (Addr × Obj)} {σ : St} {H : Hp} {s : Shared} {Q : VK} {k k' : Bool} (I : Inv X pins σ H s) (q : Q (.bl k) H) (e : k = k') : EP X pins σ Q (.bool k') s := by
  subst e
  exact ⟨.bl k, H, I, rfl, q⟩
theorem op_eq : OpR X (compareOp .Eq) rEq := by
  intro pins s σ H x y v u Q I rx ry h
  obtain ⟨hs, q⟩ := h
  cases x with
  | non =>
    cases rx
    cases y with
    | non => cases ry; exact PySem.EqNone.eq_none_none (fin_bl I q (by simp))
    | bl j => cases ry; exact PySem.EqNone.eq_none_bool (fin_bl I q (by simp))
    | int j => obtain ⟨t', rfl⟩ := ry; exact PySem.EqNone.eq_none_int (fin_bl I q (by simp))
    | str j => obtain ⟨t', rfl⟩ := ry; exact PySem.EqNone.eq_none_str (fin_bl I q (by simp))
    | _ => exact absurd (show false = true from hs) Bool.false_ne_true
  | bl i =>
    cases rx
    cases y with
    | non => cases ry; exact PySem.EqNone.eq_bool_none (fin_bl I q (by simp))
    | bl j => cases ry; exact eq_bool (fin_bl I q dec_bl)
    | str j => obtain ⟨t', rfl⟩ := ry; exact PySem.EqMixed.eq_bool_str (fin_bl I q (by simp))
    | _ => exact absurd (show false = true from hs) Bool.false_ne_true
  | int i =>
    obtain ⟨t, rfl⟩ := rx
    cases y with
    | non => cases ry; exact PySem.EqNone.eq_int_none (fin_bl I q (by simp))
    | int j => obtain ⟨t', rfl⟩ := ry; exact eq_int (fin_bl I q dec_int)
    | str j => obtain ⟨t', rfl⟩ := ry; exact PySem.EqMixed.eq_int_str (fin_bl I q (by simp))
    | _ => exact absurd (show false = true from hs) Bool.false_ne_true
  | str i =>
    obtain ⟨t, rfl⟩ := rx
    cases y with
    | non => cases ry; exact PySem.EqNone.eq_str_none (fin_bl I q (by simp))
    | bl j => cases ry; exact PySem.EqMixed.eq_str_bool (fin_bl I q (by simp))
    | int j => obtain ⟨t', rfl⟩ := ry; exact PySem.EqMixed.eq_str_int (fin_bl I q (by simp))
    | str j => obtain ⟨t', rfl⟩ := ry; exact eq_str (fin_bl I q dec_str)
    | _ => exact absurd (show false = true from hs) Bool.false_ne_true
  | byt i =>
    obtain ⟨t, rfl⟩ := rx
    cases y with
    | byt j => obtain ⟨t', rfl⟩ := ry; exact PySem.W.eq_bytes (fin_bl I q dec_byt)
    | _ => exact absurd (show false = true from hs) Bool.false_ne_true
  | _ => cases y <;> exact absurd (show false = true from hs) Bool.false_ne_true
theorem op_ne : OpR X (compareOp .NotEq) rNe := by
  intro pins s σ H x y v u Q I rx ry h
  obtain ⟨hs, q⟩ := h
  cases x with
  | non =>
    cases rx
    cases y with
    | non => cases ry; exact PySem.EqNone.ne_none_none (fin_bl I q (by simp))
    | bl j => cases ry; exact PySem.EqNone.ne_none_bool (fin_bl I q (by simp))
    | int j => obtain ⟨t', rfl⟩ := ry; exact PySem.EqNone.ne_none_int (fin_bl I q (by simp))
    | str j => obtain ⟨t', rfl⟩ := ry; exact PySem.EqNone.ne_none_str (fin_bl I q (by simp))
    | _ => exact absurd (show false = true from hs) Bool.false_ne_true
  | bl i =>
    cases rx
    cases y with
    | non => cases ry; exact PySem.EqNone.ne_bool_none (fin_bl I q (by simp))
    | bl j => cases ry; exact ne_bool (fin_bl I q (congrArg not dec_bl))
    | str j => obtain ⟨t', rfl⟩ := ry; exact PySem.EqMixed.ne_bool_str (fin_bl I q (by simp))
    | _ => exact absurd (show false = true from hs) Bool.false_ne_true
  | int i =>
    obtain ⟨t, rfl⟩ := rx
    cases y with
    | non => cases ry; exact PySem.EqNone.ne_int_none (fin_bl I q (by simp))
    | int j => obtain ⟨t', rfl⟩ := ry; exact ne_int (fin_bl I q (congrArg not dec_int))
    | str j => obtain ⟨t', rfl⟩ := ry; exact PySem.EqMixed.ne_int_str (fin_bl I q (by simp))
    | _ => exact absurd (show false = true from hs) Bool.false_ne_true
  | str i =>
    obtain ⟨t, rfl⟩ := rx
    cases y with
    | non => cases ry; exact PySem.EqNone.ne_str_none (fin_bl I q (by simp))
    | bl j => cases ry; exact PySem.EqMixed.ne_str_bool (fin_bl I q (by simp))
    | int j => obtain ⟨t', rfl⟩ := ry; exact PySem.EqMixed.ne_str_int (fin_bl I q (by simp))
    | str j => obtain ⟨t', rfl⟩ := ry; exact ne_str (fin_bl I q (congrArg not dec_str))
    | _ => exact absurd (show false = true from hs) Bool.false_ne_true
  | byt i =>
    obtain ⟨t, rfl⟩ := rx
    cases y with
    | byt j => obtain ⟨t', rfl⟩ := ry; exact PySem.W.ne_bytes (fin_bl I q (congrArg not dec_byt))
    | _ => exact absurd (show false = true from hs) Bool.false_ne_true
  | _ => cases y <;> exact absurd (show false = true from hs) Bool.false_ne_true
theorem op_lt : OpR X (compareOp .Lt) (rI0 fun i j => .bl (decide (i < j))) := opB0 fun _ _ _ _ _ _ _ q => lt_int q
theorem nomark (b : Expr) {op : CmpOp} (h : op ≠ .In := by decide) (h2 : op ≠ .NotIn := by decide) : behindInMarks op b = false := by
  have e1 : (op == CmpOp.In) = false := by cases op <;> first | rfl | exact absurd rfl h
  have e2 : (op == CmpOp.NotIn) = false := by cases op <;> first | rfl | exact absurd rfl h2
  cases b <;> simp [behindInMarks, e1, e2]
theorem pe_cmpR {op : CmpOp} {r : R2} (ho : OpR X (compareOp op) r) (ha : PE X a ta) (hb : PE X b tb) (hm : behindInMarks op b = false) : PE X (.Compare a [op] [b] pos) (tOp r ta tb) := by
  intro pins s σ H Q I h
  exact wpAny_Compare1 (binT ha hb I h fun v u s2 x y H2 I2 rx ry q => ho pins s2 σ H2 x y v u Q I2 rx ry q) hm
noncomputable def tTest (t : TE) : TT := fun σ H Q => t σ H fun x H' => ∃ k, x = .bl k ∧ Q k H'
theorem pt_cmpR {op : CmpOp} {r : R2} (ho : OpR X (compareOp op) r) (ha : PE X a ta) (hb : PE X b tb) (hm : behindInMarks op b = false) : PT X (.Compare a [op] [b] pos) (tTest (tOp r ta tb)) := by
  intro pins s σ H Q I h
  refine wpAny_isTrue_Compare1 (thn (ha pins s σ H _ I h) fun v s1 hp1 => ?_) hm
  obtain ⟨x, H1, I1, r1, q1⟩ := hp1
  refine thn (hb pins s1 σ H1 _ I1 q1) fun u s2 hp2 => ?_
  obtain ⟨y, H2, I2, r2, q2⟩ := hp2
  refine thn (ho pins s2 σ H2 x y v u _ I2 r1 r2 q2) fun c s3 hp3 => ?_
  obtain ⟨z, H3, I3, r3, k, e, q3⟩ := hp3
  subst e
  cases r3
  exact wpAny_truthy_bool ⟨H3, I3, q3⟩
noncomputable def TruV (K : PySem.W.Frag) (x : V) (H : Hp) (k : Bool) : Prop :=
  match x with
  | .non => k = false
  | .bl b => k = b
  | .int i => k = (i != 0)
  | .str y => y.length ≤ sizeLine ∧ k = ((y.length : Int) != 0)
  | .byt y => y.size ≤ sizeLine ∧ k = ((y.size : Int) != 0)
  | .ref p => (∃ xs, SqL K H p xs ∧ k = !xs.isEmpty) ∨ (∃ xs, SqT K H p xs ∧ k = !xs.isEmpty) ∨ ∃ kvs, H p = some (.dK kvs) ∧ k = !kvs.isEmpty
  | _ => False
theorem isEmpty_kv {κ : Type} {kvs : List (κ × V)} {vs : List (κ × Value)} (r : KV kvs vs) : (!vs.isEmpty) = !kvs.isEmpty := by
  cases r <;> rfl
theorem isEmpty_of {xs : List V} {its : List Value} (r : Vals xs its) : (!its.toArray.isEmpty) = !xs.isEmpty := by
  cases r <;> simp
theorem line63 : (sizeLine : Nat) < 2 ^ 63 := by rw [sizeLine_eq]; decide
theorem tru_ok : TruR X (fun x H Q => ∃ k, TruV X.K x H k ∧ Q k H) := by
  intro pins s σ H x v Q I rx h
  obtain ⟨k, e, q⟩ := h
  have hl := line63
  have hs : sizeLine = 16777216 := sizeLine_eq
  cases x with
  | non =>
    cases rx
    have e' : k = false := e
    subst e'
    exact truthy_none ⟨H, I, q⟩
  | bl b =>
    cases rx
    have e' : k = b := e
    subst e'
    exact wpAny_truthy_bool ⟨H, I, q⟩
  | int i =>
    obtain ⟨t, rfl⟩ := rx
    have e' : k = (i != 0) := e
    subst e'
    exact PySem.P.truthy_int ⟨H, I, q⟩
  | str y =>
    obtain ⟨t, rfl⟩ := rx
    obtain ⟨hy, e'⟩ : y.length ≤ sizeLine ∧ k = ((y.length : Int) != 0) := e
    subst e'
    exact PySem.P.truthy_str (by omega) ⟨H, I.tok _, q⟩
  | byt y =>
    obtain ⟨t, rfl⟩ := rx
    obtain ⟨hy, e'⟩ : y.size ≤ sizeLine ∧ k = ((y.size : Int) != 0) := e
    subst e'
    exact PySem.W.truthy_bytes (by omega) ⟨H, I.tok _, q⟩
  | ref p =>
    cases rx
    have e' : (∃ xs, SqL X.K H p xs ∧ k = !xs.isEmpty) ∨ (∃ xs, SqT X.K H p xs ∧ k = !xs.isEmpty) ∨ ∃ kvs, H p = some (.dK kvs) ∧ k = !kvs.isEmpty := e
    rcases e' with ⟨xs, hx, e'⟩ | ⟨xs, hx, e'⟩ | ⟨kvs, hx, e'⟩
    · subst e'
      obtain ⟨its, r, pl, hz⟩ := I.list hx
      have hlen := r.length
      exact wpAny_truthy_list pl.isList (by simp only [List.size_toArray]; omega) ⟨H, I.tok _, by rw [isEmpty_of r]; exact q⟩
    · subst e'
      obtain ⟨its, r, pl, hz⟩ := I.tuple hx
      have hlen := r.length
      exact truthy_tuple pl (by simp only [List.size_toArray]; omega) ⟨H, I.tok _, by rw [isEmpty_of r]; exact q⟩
    · subst e'
      obtain ⟨hz, hS, vs, r, m⟩ : kvs.length ≤ sizeLine ∧ (p == sysModules) = false ∧ ∃ vs, KV kvs vs ∧ s.heap.DictOf (mixKind X.prog X.w) p vs := I.hok p _ hx
      have hlen : kvs.length = vs.length := Paired.length r
      exact wpAny_truthy_dict hS m (by omega) ⟨H, I.tok _, by rw [isEmpty_kv r]; exact q⟩
  | _ => exact (show False from e).elim
theorem pt_truth (ha : PE X a ta) (he : ∀ whole, isTrue a X.env whole = (do let v ← whole; standAt a.pos; holding [v] (truthy v))) :
    PT X a (fun σ H Q => ta σ H fun x H' => ∃ k, TruV X.K x H' k ∧ Q k H') := by
  intro pins s σ H Q I h
  exact isTrue_plain (thn (ha pins s σ H _ I h) fun v s1 hpat => by obtain ⟨x, H1, I1, r1, q1⟩ := hpat; exact tru_ok pins s1 σ H1 x v Q I1 r1 q1) (he _)
theorem op_add_str : OpR X (binaryOp .Add) (fun x y H Q => ∃ i j, x = .str i ∧ y = .str j ∧ i.length + j.length ≤ sizeLine ∧ Q (.str (i ++ j)) H) := by
  intro pins s σ H x y v u Q I rx ry h
  obtain ⟨i, j, rfl, rfl, hz, q⟩ := h
  obtain ⟨t, rfl⟩ := rx
  obtain ⟨t', rfl⟩ := ry
  exact add_str (fun t' tk => ⟨.str (i ++ j), H, I.tok _, ⟨_, rfl⟩, q⟩) hz
theorem vals1 {x : V} {us : List Value} (r : Vals [x] us) : ∃ u, us = [u] ∧ RelV x u := by
  cases r with
  | cons r1 r2 => cases r2; exact ⟨_, rfl, r1⟩
theorem vals2 {x y : V} {us : List Value} (r : Vals [x, y] us) : ∃ u w', us = [u, w'] ∧ RelV x u ∧ RelV y w' := by
  cases r with
  | cons r1 r2 =>
    cases r2 with
    | cons r3 r4 => cases r4; exact ⟨_, _, rfl, r1, r3⟩
theorem call_str_int : CallR X (.type "str") (fun xs H Q => ∃ i, xs = [.int i] ∧ i.natAbs.log2 < 1920 ∧ Q (.str (toString i)) H) := by
  intro pins s σ H xs us Q I r h
  obtain ⟨i, rfl, hz, q⟩ := h
  obtain ⟨u, rfl, t, rfl⟩ := vals1 r
  exact PySem.P.str_of_int hz ⟨.str _, H, I.tok _, ⟨_, rfl⟩, q⟩
end
end L2
namespace L2
open PySem PySem.Spec PyProof.Rows
set_option genInjectivity false in
structure ObjM (h : Heap) (x dx C : Addr) (mA : Str → Option Value) : Prop where
  obj : h.get? x = some (PySem.W.instObj C dx)
  ns : h.Ns1 dx mA
  ne : dx ≠ x
theorem lookIn_ns {h : Heap} {dx : Addr} {mA : Str → Option Value} (n : h.Ns1 dx mA) : ∃ od, h.get? dx = some od ∧ ∀ name, PySem.W.lookIn name od = some (mA name) := by
  obtain ⟨o, es, ep, ho, hd, hk, _, hm⟩ := n
  refine ⟨o, ho, fun name => ?_⟩
  have e := hm name
  unfold nsFind findBy at e
  rw [← Array.find?_toList] at e
  unfold PySem.W.lookIn
  rw [hd]
  dsimp only
  split
  · rename_i y q
    rw [q] at e
    exact congrArg some e
  · rename_i q
    rw [q] at e
    have a : es.toList.any (·.refKey) = false := by
      rw [List.any_eq_false]
      intro y hy
      obtain ⟨z, t, hkey⟩ := hk y (Array.mem_toList_iff.mp hy)
      simp [DictEntry.refKey, hkey]
    have a' : ¬ es.toList.any (·.refKey) = true := by rw [a]; exact Bool.false_ne_true
    rw [if_neg a']
    exact congrArg some e
theorem ObjM.look {h : Heap} {x dx C : Addr} {mA : Str → Option Value} (I : ObjM h x dx C mA) : ∃ od, PySem.W.InstAt h x (PySem.W.instObj C dx) C (some od) ∧ ∀ name, PySem.W.lookIn name od = some (mA name) :=
  let ⟨od, ho, hl⟩ := lookIn_ns I.ns
  ⟨od, ⟨I.obj, rfl, rfl, ho⟩, hl⟩
section
variable {prog : Program} {w : World} {A : Around} {E : Value → Shared → Prop} {s : Shared} {K : PySem.W.Frag} {x dx C f : Addr} {mA : Str → Option Value} {name : Str} {v : Value}
theorem get_map {expr : Bool} {Q : Value → Shared → Prop} (X : K.In s.heap) (I : ObjM s.heap x dx C mA) (hg : PySem.W.plainGet K C name = true) (hh : PySem.W.hasDictIn K C = true)
    (ha : PySem.W.findIn K (.ref C) name = some none) (hv : mA name = some v) (hv' : PySem.W.handedIn v = true) (h : Q v { s with toks := s.toks + 1 }) :
    wpAny (model prog w) A (getAttr (.ref x) name expr) Q E s := by
  obtain ⟨od, J, hl⟩ := I.look
  exact PySem.W.get_value X J (PySem.W.plainGet_of hg).1 (PySem.W.findObj_own hh ha rfl (by rw [hl, hv])) hv' h
theorem get_meth {pl : Sem Bool} {Q : Value × List Value → Shared → Prop} (X : K.In s.heap) (I : ObjM s.heap x dx C mA) (hg : PySem.W.plainGet K C name = true)
    (hf : PySem.W.findIn K (.ref C) name = some (some (.ref f))) (ht : PySem.W.isFn K (.ref f) = true) (hv : mA name = none) (h : Q (.ref f, [.ref x]) s) :
    wpAny (model prog w) A (getMethod (.ref x) name pl) Q E s := by
  obtain ⟨od, J, hl⟩ := I.look
  exact PySem.W.method_fn X J (PySem.W.plainGet_of hg).1 (PySem.W.plainGet_of hg).2 hf (beq_iff_eq.mp ht) (by show (PySem.W.lookIn name od).map (·.isSome) = some false; rw [hl, hv]; rfl) h
theorem set_map {ns : List Str} {Q : Unit → Shared → Prop} (X : K.In s.heap) (I : ObjM s.heap x dx C mA)
    (hs : PySem.W.findIn K (.ref C) "__setattr__" = some (some (.builtin "object.__setattr__"))) (hp : PySem.W.plainOver K C = true) (ht : PySem.W.takerIn K C name = some none) (hh : PySem.W.hasDictIn K C = true)
    (hw : PySem.Within mA ns) (hsz : ns.length ≤ sizeLine)
    (h : ∀ h', ObjM h' x dx C (fun y => if y = name then some v else mA y) → Heap.SameBut dx s.heap h' → Q () { s with heap := h', toks := s.toks + 2 }) :
    wpAny (model prog w) A (setAttr (.ref x) name v) Q E s := by
  obtain ⟨od, J, hl⟩ := I.look
  refine PySem.W.set_plain X J hs (PySem.W.osa_open (s := { s with toks := s.toks + 1 }) (r := none) X J hp ht fun b => ?_)
  obtain ⟨cd, hc, hd'⟩ := PySem.W.any_some hh
  have hx : s.heap.get? x = some ⟨.ref C, some dx, .plain, #[]⟩ := I.obj
  refine wpAny_bind (wpAny_pure (wpAny_bind (wpAny_bind (wpAny_loadPart hx (wpAny_bind (PySem.W.Looks.here (s := { s with toks := s.toks + 1 }) (PySem.W.looks_clsIn X hc) ?_))))))
  rw [hd']
  refine wpAny_pure (a := some dx) (wpAny_bind (wpAny_pure (wpAny_bind ?_)))
  refine wpAny_nsSet1 (s := { s with toks := s.toks + 1 }) I.ns fun h' hn2 hs2 => ?_
  obtain ⟨oD, esD, epD, hoD, hdD, hcD⟩ := hn2.count (PySem.Within.cons name v hw)
  refine wpAny_bind (wpAny_lookBehind hoD (by rw [hdD]; exact pastItsLine_dict (Nat.le_trans hcD (by rw [List.length_cons]; omega))) ?_)
  exact wpAny_pure (h _ ⟨(hs2.2 _ (Ne.symm I.ne)).trans I.obj, hn2, I.ne⟩ hs2)
theorem make_map {R : Result → Shared → Prop} {vs : List Value} {kw : List (Str × Value)} (X : K.In s.heap) (hm : PySem.W.makesIn K C = true)
    (hi : PySem.W.findIn K (.ref C) "__init__" = some (some (.ref f))) (hf : PySem.W.typeIn K (.ref f) = some (.type "function"))
    (h : codeAny (model prog w) (A.under (.builtin "type.__call__" ⟨.ref C :: vs, kw⟩)) (.call (.ref f) ⟨.ref (s.heap.objs.size + 1) :: vs, kw⟩) (PySem.W.InitBack (s.heap.objs.size + 1) R)
      { s with heap := (s.heap.push PySem.W.emptyDict).push (PySem.W.instObj C s.heap.objs.size) }) :
    codeAny (model prog w) A (.call (.ref C) ⟨vs, kw⟩) R s := by
  obtain ⟨hh, g, d, t, os⟩ := s
  exact PySem.W.make_core (PySem.W.makes_of X hm) (PySem.W.looks_findIn X hi) (fun self => PySem.W.bind_fn X self hf) (.inl rfl) h
end
noncomputable def putF (f : Str) (v : V) : List (Str × V) → List (Str × V)
  | [] => [(f, v)]
  | (g, x) :: r => if g = f then (g, v) :: r else (g, x) :: putF f v r
theorem lookup_putF (f g : Str) (v : V) : ∀ fs : List (Str × V), (putF f v fs).lookup g = if g = f then some v else fs.lookup g
  | [] => by
    show List.lookup g [(f, v)] = _
    by_cases h : g = f
    · have hb : (g == f) = true := beq_iff_eq.mpr h
      simp only [List.lookup, hb, if_pos h]
    · have hb : (g == f) = false := beq_eq_false_iff_ne.mpr h
      simp only [List.lookup, hb, if_neg h]
  | (k, x) :: r => by
    have ih := lookup_putF f g v r
    rw [show putF f v ((k, x) :: r) = (if k = f then (k, v) :: r else (k, x) :: putF f v r) from rfl]
    by_cases hk : k = f
    · rw [if_pos hk]
      by_cases h : g = k
      · have hb : (g == k) = true := beq_iff_eq.mpr h
        simp only [List.lookup, hb, if_pos (h.trans hk)]
      · have hb : (g == k) = false := beq_eq_false_iff_ne.mpr h
        simp only [List.lookup, hb, if_neg (fun e : g = f => h (e.trans hk.symm))]
    · rw [if_neg hk]
      by_cases h : g = k
      · have hb : (g == k) = true := beq_iff_eq.mpr h
        simp only [List.lookup, hb, if_neg (fun e : g = f => hk (h.symm.trans e))]
      · have hb : (g == k) = false := beq_eq_false_iff_ne.mpr h
        simp only [List.lookup, hb]
        exact ih
theorem keys_putF (f : Str) (v : V) : ∀ fs : List (Str × V), f ∈ (putF f v fs).map (·.1) ∧ ∀ g, g ∈ fs.map (·.1) → g ∈ (putF f v fs).map (·.1)
  | [] => ⟨by simp [putF], fun g h => by simp at h⟩
  | (k, x) :: r => by
    obtain ⟨i1, i2⟩ := keys_putF f v r
    rw [show putF f v ((k, x) :: r) = (if k = f then (k, v) :: r else (k, x) :: putF f v r) from rfl]
    by_cases hk : k = f
    · rw [if_pos hk]
      subst hk
      exact ⟨by simp, fun g h => by simpa using h⟩
    · rw [if_neg hk]
      refine ⟨?_, fun g h => ?_⟩
      · rw [List.map_cons]
        exact List.mem_cons_of_mem _ i1
      · rw [List.map_cons] at h ⊢
        rcases List.mem_cons.mp h with e | e
        · exact List.mem_cons.mpr (.inl e)
        · exact List.mem_cons_of_mem _ (i2 g e)
theorem length_putF (f : Str) (v : V) : ∀ fs : List (Str × V), (putF f v fs).length ≤ fs.length + 1
  | [] => by simp [putF]
  | (k, x) :: r => by
    have ih := length_putF f v r
    rw [show putF f v ((k, x) :: r) = (if k = f then (k, v) :: r else (k, x) :: putF f v r) from rfl]
    by_cases hk : k = f
    · rw [if_pos hk, List.length_cons, List.length_cons]; omega
    · rw [if_neg hk, List.length_cons, List.length_cons]; omega
theorem RelO.some_of {v : V} {o : Option Value} (r : RelO (some v) o) : ∃ u, o = some u ∧ RelV v u := by
  cases o with
  | none => exact (show False from r).elim
  | some u => exact ⟨u, rfl, r⟩
theorem RelO.none_of {o : Option Value} (r : RelO none o) : o = none := by
  cases o with
  | none => rfl
  | some u => exact (show False from r).elim
theorem handed_of {v : V} {u : Value} (r : RelV v u) : PySem.W.handedIn u = true := by
  cases v with
  | non => cases (show u = Value.none from r); rfl
  | bl b => cases (show u = Value.bool b from r); rfl
  | int i => obtain ⟨t, e⟩ := (show ∃ t, u = Value.int i t from r); cases e; rfl
  | str x => obtain ⟨t, e⟩ := (show ∃ t, u = Value.str x t from r); cases e; rfl
  | byt b => obtain ⟨t, e⟩ := (show ∃ t, u = Value.bytes b t from r); cases e; rfl
  | flt b => obtain ⟨t, e⟩ := (show ∃ t, u = Value.float b t from r); cases e; rfl
  | ref a => cases (show u = Value.ref a from r); rfl
  | ty n => cases (show u = Value.type n from r); rfl
section
variable {P : Program} {w : World} {H H' : Hp} {h h' : Heap} {a C dx : Addr} {fs fs' : List (Str × V)}
theorem ins_get (hok : HOk P w H h) (e : H a = some (.ins C dx fs)) : ∃ mA, ObjM h a dx C mA ∧ (∀ f, RelO (fs.lookup f) (mA f)) ∧ PySem.Within mA (fs.map (·.1)) ∧ fs.length ≤ 1000 ∧ H dx = some (.own a) := by
  obtain ⟨d, z, ne, ob, mA, n, r, q⟩ := (show ObjOk P w H h a (.ins C dx fs) from hok a _ e)
  exact ⟨mA, ⟨ob, n, ne⟩, r, q, z, d⟩
end
set_option genInjectivity false in
structure Cls (K : PySem.W.Frag) (C : Addr) : Prop where
  pg : PySem.W.plainGet K C Str.empty = true
  hd : PySem.W.hasDictIn K C = true
  po : PySem.W.plainOver K C = true
  sa : PySem.W.findIn K (.ref C) "__setattr__" = some (some (.builtin "object.__setattr__"))
theorem Cls.get {K : PySem.W.Frag} {C : Addr} (c : Cls K C) (f : Str) : PySem.W.plainGet K C f = true := c.pg
noncomputable def NoAttr (K : PySem.W.Frag) (C : Addr) (f : Str) : Prop := PySem.W.findIn K (.ref C) f = some none
theorem NoAttr.taker {K : PySem.W.Frag} {C : Addr} {f : Str} (n : NoAttr K C f) : PySem.W.takerIn K C f = some none := by
  unfold PySem.W.takerIn
  rw [show PySem.W.findIn K (.ref C) f = some none from n]
  rfl
set_option genInjectivity false in
structure Meth (K : PySem.W.Frag) (C : Addr) (m : Str) (f : Addr) : Prop where
  at_ : PySem.W.findIn K (.ref C) m = some (some (.ref f))
  fn : PySem.W.isFn K (.ref f) = true
  kp : PySem.W.keepIn K (.ref f) = true
section
variable {X : Cx} {pins : List (Addr × Obj)} {σ : St} {H : Hp} {s : Shared} {a C dx : Addr} {fs : List (Str × V)} {f : Str} {v : V} {A : Around} {E : Value → Shared → Prop}
theorem getattr_ok {b : Bool} {Q : Value → Shared → Prop} (I : Inv X pins σ H s) (e : H a = some (.ins C dx fs)) (c : Cls X.K C) (n : NoAttr X.K C f) (l : fs.lookup f = some v)
    (h : ∀ u s', Inv X pins σ H s' → RelV v u → Q u s') : wpAny (model X.prog X.w) A (getAttr (.ref a) f b) Q E s := by
  obtain ⟨mA, O, r, _, _, _⟩ := ins_get I.hok e
  obtain ⟨u, hu, ru⟩ := RelO.some_of (v := v) (o := mA f) (by rw [← l]; exact r f)
  exact get_map I.kIn O (c.get f) c.hd n hu (handed_of ru) (h u _ (I.tok _) ru)
theorem getmeth_ok {m : Str} {g : Addr} {pl : Sem Bool} {Q : Value × List Value → Shared → Prop} (I : Inv X pins σ H s) (e : H a = some (.ins C dx fs)) (c : Cls X.K C) (k : Meth X.K C m g) (l : fs.lookup m = none)
    (h : Q (.ref g, [.ref a]) s) : wpAny (model X.prog X.w) A (getMethod (.ref a) m pl) Q E s := by
  obtain ⟨mA, O, r, _, _, _⟩ := ins_get I.hok e
  have hn : mA m = none := RelO.none_of (by rw [← l]; exact r m)
  exact get_meth I.kIn O (c.get m) k.at_ k.fn hn h
theorem setattr_ok {y : V} {u : Value} {Q : Unit → Shared → Prop} (I : Inv X pins σ H s) (e : H a = some (.ins C dx fs)) (c : Cls X.K C) (n : NoAttr X.K C f) (hl : fs.length < 1000) (ry : RelV y u)
    (h : ∀ s', Inv X pins σ (upd H a (.ins C dx (putF f y fs))) s' → Q () s') : wpAny (model X.prog X.w) A (setAttr (.ref a) f u) Q E s := by
  obtain ⟨mA, O, r, wi, _, ho⟩ := ins_get I.hok e
  have hz : (fs.map (·.1)).length ≤ sizeLine := by rw [List.length_map, sizeLine_eq]; omega
  refine set_map I.kIn O c.sa c.po n.taker c.hd wi hz fun h' O' sb => h _ ?_
  have hd : ∃ o, h'.get? dx = some o := let ⟨o, _, _, e', _⟩ := O'.ns; ⟨o, e'⟩
  refine I.write (x := a) (e := dx) (by rw [e]; exact True.intro) (.inr ho) (fun b q hb z => (sb.2 b hb).trans z) hd ?_
  refine ⟨by rw [upd_ne O.ne]; exact ho, ?_, O.ne, O'.obj, _, O'.ns, fun g => ?_, fun g hg => ?_⟩
  · have := length_putF f y fs; omega
  · show RelO ((putF f y fs).lookup g) (if g = f then some u else mA g)
    rw [lookup_putF]
    by_cases q : g = f
    · rw [if_pos q, if_pos q]; exact ry
    · rw [if_neg q, if_neg q]; exact r g
  · by_cases q : g = f
    · rw [q]; exact (keys_putF f y fs).1
    · refine (keys_putF f y fs).2 g (wi g fun z => hg ?_)
      show (if g = f then some u else mA g) = none
      rw [if_neg q]; exact z
theorem Inv.made (I : Inv X pins σ H s) : Inv X pins σ (upd (upd H s.heap.objs.size (.own (s.heap.objs.size + 1))) (s.heap.objs.size + 1) (.ins C s.heap.objs.size []))
    { s with heap := (s.heap.push PySem.W.emptyDict).push (PySem.W.instObj C s.heap.objs.size) } := by
  have e1 : (s.heap.push PySem.W.emptyDict).get? s.heap.objs.size = some PySem.W.emptyDict := Heap.get?_push_size s.heap rfl
  have e2 : ((s.heap.push PySem.W.emptyDict).push (PySem.W.instObj C s.heap.objs.size)).get? (s.heap.objs.size + 1) = some (PySem.W.instObj C s.heap.objs.size) := by
    have := Heap.get?_push_size (s.heap.push PySem.W.emptyDict) (o := PySem.W.instObj C s.heap.objs.size) rfl
    rwa [Heap.size_push] at this
  have e3 : (s.heap.push PySem.W.emptyDict).Ns s.heap.objs.size (fun _ => none) := ⟨PySem.W.emptyDict, #[], _, e1, rfl, (fun e he => absurd he (by simp)), fun _ => rfl⟩
  have I1 := I.laid (a := s.heap.objs.size) (o := .own (s.heap.objs.size + 1)) (h' := s.heap.push PySem.W.emptyDict) (t' := s.toks) (fun b u q => Heap.get?_push_of_some _ q) (Nat.le_refl _) ⟨_, e1⟩
  refine I1.laid (a := s.heap.objs.size + 1) (o := .ins C s.heap.objs.size []) (t' := s.toks) (fun b u q => Heap.get?_push_of_some _ q) (Nat.le_of_eq (Heap.size_push _ _)) ?_
  have ne : s.heap.objs.size ≠ s.heap.objs.size + 1 := Nat.ne_of_lt (Nat.lt_succ_self _)
  refine ⟨by rw [upd_ne ne, upd_same], Nat.zero_le _, ne, e2, fun _ => none, (Heap.Ns1.of_empty e3).at fun o q => Heap.get?_push_of_some _ q, fun _ => True.intro, fun y hy => absurd rfl hy⟩
theorem attr_of {prog : Program} {w : World} {env : Env} {e : Expr} {f : Str} {pos : Pos} {s : Shared} {Q : Value → Shared → Prop} (hb : attributeBase e f env (eval e env) = eval e env)
    (h : wpAny (model prog w) A (eval e env) (fun o s₁ => wpAny (model prog w) A (getAttr o f true) Q E s₁) E s) : wpAny (model prog w) A (eval (.Attribute e f pos) env) Q E s :=
  Attribute_any_ h (by rw [arm_eval_Attribute, hb])
end
noncomputable def tFld (K : PySem.W.Frag) (ta : TE) (f : Str) : TE := fun σ H Q => ta σ H fun x H1 => ∃ a C dx fs v, x = .ref a ∧ H1 a = some (.ins C dx fs) ∧ Cls K C ∧ NoAttr K C f ∧ fs.lookup f = some v ∧ Q v H1
noncomputable def sFld (K : PySem.W.Frag) (ta tv : TE) (f : Str) : TS := fun D σ H => tv σ H fun y H1 => ta σ H1 fun x H2 => ∃ a C dx fs, x = .ref a ∧ H2 a = some (.ins C dx fs) ∧ Cls K C ∧ NoAttr K C f ∧ fs.length < 1000 ∧
  D.nx σ (upd H2 a (.ins C dx (putF f y fs)))
noncomputable def InOp (X : Cx) (op : Operator) (rd : V → V → Hp → VK → Prop) : Prop :=
  ∀ (pins : List (Addr × Obj)) (s : Shared) (σ : St) (H : Hp) (x y : V) (u v : Value) (Q : VK), Inv X pins σ H s → RelV x u → RelV y v → rd x y H Q → wpAny (model X.prog X.w) X.A (inplaceOp op u v) (EP X pins σ Q) X.xe s
noncomputable def sFldAug (K : PySem.W.Frag) (ta tv : TE) (rd : V → V → Hp → VK → Prop) (f : Str) : TS := fun D σ H => ta σ H fun x H1 => ∃ a C dx fs v, x = .ref a ∧ H1 a = some (.ins C dx fs) ∧ Cls K C ∧ NoAttr K C f ∧ fs.lookup f = some v ∧
  tv σ H1 fun y H2 => rd v y H2 fun z H3 => ∃ dx' fs', H3 a = some (.ins C dx' fs') ∧ fs'.length < 1000 ∧ D.nx σ (upd H3 a (.ins C dx' (putF f z fs')))
section
variable {X : Cx} {o e value : Expr} {f : Str} {pos pos' tpos : Pos} {ta tv : TE}
theorem pe_fld (he : PE X e ta) (hb : attributeBase e f X.env (eval e X.env) = eval e X.env) : PE X (.Attribute e f pos) (tFld X.K ta f) := by
  intro pins s σ H Q I h
  refine attr_of hb (thn (he pins s σ H _ I h) fun u s1 hpat => ?_)
  obtain ⟨x, H1, I1, rx, a, C, dx, fs, v, ex, ea, c, n, l, q⟩ := hpat
  subst ex
  obtain rfl : u = Value.ref a := rx
  exact getattr_ok I1 ea c n l fun u' s2 I2 ru => ⟨v, H1, I2, ru, q⟩
theorem ps_fld (ha : PE X o ta) (hv : PE X value tv) (hs : swapsWith value (some (.Attribute o f pos')) pos.line X.env = pure false) : PS X (.Assign [.Attribute o f pos'] value pos) (sFld X.K ta tv f) := by
  intro pins s σ H D I h
  refine plainObj_wpAny_Assign_Attribute (thn (hv pins s σ H _ I h) fun u s1 hq1 => ?_) hs
  obtain ⟨y, H1, I1, ry, q⟩ := hq1
  refine thn (ha pins s1 σ H1 _ I1 q) fun ov s2 hpat => ?_
  obtain ⟨x, H2, I2, rx, a, C, dx, fs, ex, ea, c, n, l, q2⟩ := hpat
  subst ex
  obtain rfl : ov = Value.ref a := rx
  exact setattr_ok I2 ea c n l ry fun s3 I3 => ⟨σ, _, I3, q2⟩
theorem ps_fldaug {op : Operator} {rd : V → V → Hp → VK → Prop} (ha : PE X o ta) (hv : PE X value tv) (hop : InOp X op rd) : PS X (.AugAssign (.Attribute o f tpos) op value pos) (sFldAug X.K ta tv rd f) := by
  intro pins s σ H D I h
  refine wpAny_AugAssign_AttributeAny (thn (ha pins s σ H _ I h) fun ov s1 hpat => ?_)
  obtain ⟨x, H1, I1, rx, a, C, dx, fs, v, ex, ea, c, n, l, q⟩ := hpat
  subst ex
  obtain rfl : ov = Value.ref a := rx
  refine getattr_ok I1 ea c n l fun u s2 I2 ru => thn (hv pins s2 σ H1 _ I2 q) fun w3 s3 hq2 => ?_
  obtain ⟨y, H2, I3, ry, q3⟩ := hq2
  refine thn (hop pins s3 σ H2 v y u w3 _ I3 ru ry q3) fun w4 s4 hpat => ?_
  obtain ⟨z, H3, I4, rz, dx', fs', ea', l', q4⟩ := hpat
  exact setattr_ok I4 ea' c n l' rz fun s5 I5 => ⟨σ, _, I5, q4⟩
noncomputable def rAdd : V → V → Hp → VK → Prop := fun x y H Q => ∃ i j, x = .int i ∧ y = .int j ∧ Q (.int (i + j)) H
theorem in_add : InOp X .Add rAdd := by
  rintro pins s σ H x y u v Q I rx ry ⟨i, j, rfl, rfl, q⟩
  obtain ⟨t, rfl⟩ := (show ∃ t, u = Value.int i t from rx)
  obtain ⟨t', rfl⟩ := (show ∃ t', v = Value.int j t' from ry)
  exact PyProof.Rows.iadd_int ⟨.int (i + j), H, I.tok _, ⟨_, rfl⟩, q⟩
end
section
variable {X : Cx} {pins : List (Addr × Obj)} {σ : St} {H : Hp} {s : Shared} {A : Around} {E : Value → Shared → Prop} {Q : Value → Shared → Prop} {c : Value} {b : Bool}
inductive TyOf (K : PySem.W.Frag) (H : Hp) : V → Value → Prop where
  | non : TyOf K H .non (.type "NoneType")
  | bl (x : Bool) : TyOf K H (.bl x) (.type "bool")
  | int (i : Int) : TyOf K H (.int i) (.type "int")
  | str (x : Str) : TyOf K H (.str x) (.type "str")
  | flt (x : UInt64) : TyOf K H (.flt x) (.type "float")
  | lst {a : Addr} {xs : List V} (e : H a = some (.lst xs)) : TyOf K H (.ref a) (.type "list")
  | frz {a : Addr} {o : Obj} {xs : List V} (e : H a = some (.frz o (.lst xs))) : TyOf K H (.ref a) (.type "list")
  | tup {a : Addr} {xs : List V} (e : H a = some (.tup xs)) : TyOf K H (.ref a) (.type "tuple")
  | dK {a : Addr} {kvs : List (Key × V)} (e : H a = some (.dK kvs)) : TyOf K H (.ref a) (.type "dict")
  | dT {a : Addr} {kvs : List (List Key × V)} (e : H a = some (.dT kvs)) : TyOf K H (.ref a) (.type "dict")
  | ins {a C dx : Addr} {fs : List (Str × V)} (e : H a = some (.ins C dx fs)) (cl : Cls K C) (ha : PySem.W.findIn K (.ref C) "__class__" = some (some (.builtin "object.__class__")))
      (hn : PySem.W.specialIn K (.builtin "object.__class__") "__get__" = some (some (.builtin "getset_descriptor.__get__"))) (htk : PySem.W.takesIn K (.builtin "object.__class__") = some true)
      (hm : PySem.W.mroIn K C (.type "object") = some true) : TyOf K H (.ref a) (.ref C)
theorem isinst_ok {x : V} {u t : Value} (I : Inv X pins σ H s) (rx : RelV x u) (ty : TyOf X.K H x t) (e : PySem.W.kitOne X.K t c = some b) (h : ∀ tk, Q (.bool b) { s with toks := tk }) :
    wpAny (model X.prog X.w) A (call (.builtin "isinstance") [u, c]) Q E s := by
  cases ty with
  | non => cases (show u = Value.none from rx); exact PySem.W.kia_one PySem.W.kitx_none I.kIn True.intro e (fun z => nomatch z) h
  | bl y => cases (show u = Value.bool y from rx); exact PySem.W.kia_one PySem.W.kitx_bool I.kIn True.intro e (fun z => nomatch z) h
  | int i => obtain ⟨t, q⟩ := (show ∃ t, u = Value.int i t from rx); cases q; exact PySem.W.kia_one PySem.W.kitx_int I.kIn True.intro e (fun z => nomatch z) h
  | str y => obtain ⟨t, q⟩ := (show ∃ t, u = Value.str y t from rx); cases q; exact PySem.W.kia_one PySem.W.kitx_str I.kIn True.intro e (fun z => nomatch z) h
  | flt y => obtain ⟨t, q⟩ := (show ∃ t, u = Value.float y t from rx); cases q; exact PySem.W.kia_one PySem.W.kitx_float I.kIn True.intro e (fun z => nomatch z) h
  | @lst a xs ea =>
    cases (show u = Value.ref a from rx)
    obtain ⟨_, _, n, _, h1⟩ := (show ObjOk X.prog X.w H s.heap a (.lst xs) from I.hok a _ ea)
    exact PySem.W.kia_one PySem.W.kitx_list I.kIn ⟨_, h1, rfl⟩ e (fun z => nomatch z) h
  | @frz a ob xs ea =>
    cases (show u = Value.ref a from rx)
    obtain ⟨_, _, _, n, _, h1⟩ := (show ObjOk X.prog X.w H s.heap a (.frz ob (.lst xs)) from I.hok a _ ea)
    exact PySem.W.kia_one PySem.W.kitx_list I.kIn ⟨_, h1, rfl⟩ e (fun z => nomatch z) h
  | @tup a xs ea =>
    cases (show u = Value.ref a from rx)
    obtain ⟨_, _, _, p⟩ := (show ObjOk X.prog X.w H s.heap a (.tup xs) from I.hok a _ ea)
    obtain ⟨o, h1, h2, _⟩ := p
    exact PySem.W.kia_one PySem.W.kitx_tuple I.kIn ⟨o, h1, h2⟩ e (fun z => nomatch z) h
  | @dK a kvs ea =>
    cases (show u = Value.ref a from rx)
    obtain ⟨_, _, vs, _, p⟩ := (show ObjOk X.prog X.w H s.heap a (.dK kvs) from I.hok a _ ea)
    obtain ⟨o, es, ep, h1, h2, _⟩ := p
    exact PySem.W.kia_one PySem.W.kitx_dict I.kIn ⟨o, h1, h2.1⟩ e (fun z => nomatch z) h
  | @dT a kvs ea =>
    cases (show u = Value.ref a from rx)
    obtain ⟨_, _, xs, _, o, es, ep, h1, h2, _⟩ := (show ObjOk X.prog X.w H s.heap a (.dT kvs) from I.hok a _ ea)
    exact PySem.W.kia_one PySem.W.kitx_dict I.kIn ⟨o, h1, h2.1⟩ e (fun z => nomatch z) h
  | @ins a C dx fs ea cl ha hn htk hm =>
    cases (show u = Value.ref a from rx)
    obtain ⟨mA, O, _⟩ := ins_get I.hok ea
    obtain ⟨od, J, _⟩ := O.look
    exact PySem.W.kia_one (PySem.W.kitx_own (cl.get _) cl.hd ha hn htk hm) I.kIn J e (fun z => nomatch z) h
end
end L2
namespace L2
open PySem PySem.Spec PyProof.Rows
set_option genInjectivity false in
structure Room (k : Nat) (A : Around) : Prop where
  hd : A.handled = none
  dp : A.depth + 3 * k + 5 < recursionLimit
  un : A.units + 16 * k + 200 < cLine
theorem Room.mono {j k : Nat} {A : Around} (r : Room k A) (h : j ≤ k) : Room j A := ⟨r.hd, by have := r.dp; omega, by have := r.un; omega⟩
theorem Room.deeper {k : Nat} {A : Around} (r : Room (k + 1) A) (env : Env) : Room k (A.deeper env) :=
  ⟨r.hd, by have := r.dp; show A.depth + 1 + 3 * k + 5 < _; omega, by have := r.un; show A.units + 3 + 16 * k + 200 < _; omega⟩
theorem make_depth {A : Around} {C : Addr} {us : List Value} {kw : List (Str × Value)} : (A.under (.builtin "type.__call__" ⟨.ref C :: us, kw⟩)).depth = A.depth + 1 := by
  first | rfl | simp [Around.under, Code.weight, Code.isCreation, Code.isGuard, Code.isCaller, Code.frames, Code.isFrame, guardIds]
theorem make_units {A : Around} {C : Addr} {us : List Value} {kw : List (Str × Value)} : (A.under (.builtin "type.__call__" ⟨.ref C :: us, kw⟩)).units = A.units + 1 := by
  first | rfl | simp [Around.under, Code.cUnits, Code.frames, Code.isFrame]
theorem Room.make {k : Nat} {A : Around} (r : Room (k + 1) A) (C : Addr) (us : List Value) (kw : List (Str × Value)) : Room k (A.under (.builtin "type.__call__" ⟨.ref C :: us, kw⟩)) :=
  ⟨r.hd, by have := r.dp; rw [make_depth]; omega, by have := r.un; rw [make_units]; omega⟩
theorem Room.depth {k : Nat} {A : Around} (r : Room k A) : A.depth < recursionLimit := by have := r.dp; omega
theorem Room.units {k : Nat} {A : Around} (r : Room k A) : A.units + 64 < cLine := by have := r.un; omega
noncomputable def tNil : TA := fun _ H Q => Q [] H
noncomputable def tCons (ta : TE) (tr : TA) : TA := fun σ H Q => ta σ H fun x H1 => tr σ H1 fun xs H2 => Q (x :: xs) H2
section
variable {X : Cx} {e : Expr} {es : List Expr} {te : TE} {t : TA} {pos : Pos}
theorem pa_nil : PA X [] tNil := fun _ _ _ _ H Q I h => Calls.spliced_nil ⟨[], H, I, .nil, h⟩
theorem pa_cons (ha : PE X e te) (hr : PA X es t) (hs : starEach (e :: es) X.env = (false, eval e X.env) :: starEach es X.env := by rfl) : PA X (e :: es) (tCons te t) := by
  intro pos pins s σ H Q I h
  rw [hs]
  show wpAny _ _ (spliced ((false, eval e X.env) :: backTo pos (starEach es X.env))) _ _ s
  refine Calls.spliced_cons (thn (ha pins s σ H _ I h) fun u s1 hpat => ?_)
  obtain ⟨x, H1, I1, r1, q1⟩ := hpat
  exact thn (hr pos pins s1 σ H1 _ I1 q1) fun us s2 hpat => by obtain ⟨xs, H2, I2, r2, q2⟩ := hpat; exact ⟨x :: xs, H2, I2, .cons r1 r2, q2⟩
noncomputable def tTup (t : TA) : TE := fun σ H Q => t σ H fun xs H1 => xs.length ≤ sizeLine ∧ ∀ p, H1 p = none → Q (.ref p) (upd H1 p (.tup xs))
noncomputable def tLst (t : TA) : TE := fun σ H Q => t σ H fun xs H1 => xs.length ≤ sizeLine ∧ ∀ p, H1 p = none → Q (.ref p) (upd H1 p (.lst xs))
theorem pe_tup {x1} (h : PA X es t) : PE X (.Tuple es x1 pos) (tTup t) := by
  intro pins s σ H Q I hq
  refine wpAny_Tuple_spliced (thn (h pos pins s σ H _ I hq) fun us s1 hq3 => ?_)
  obtain ⟨xs, H1, I1, r, z, q⟩ := hq3
  refine ⟨by rw [← r.length]; exact z, ?_⟩
  have hf : H1 s1.heap.objs.size = none := I1.hok.fresh (Nat.le_refl _)
  refine ⟨.ref s1.heap.objs.size, upd H1 s1.heap.objs.size (.tup xs), I1.laid (t' := s1.toks) (fun b u e => Heap.get?_push_of_some _ e) (Nat.le_refl _) ?_, rfl, q _ hf⟩
  exact ⟨z, us, r, ⟨_, Heap.get?_push_size _ rfl, rfl, _, rfl⟩⟩
theorem pe_lst (h : PA X es t) : PE X (.List es pos) (tLst t) := by
  intro pins s σ H Q I hq
  refine wpAny_List_spliced (thn (h pos pins s σ H _ I hq) fun us s1 hq4 => ?_)
  obtain ⟨xs, H1, I1, r, z, q⟩ := hq4
  refine ⟨by rw [← r.length]; exact z, ?_⟩
  have hf : H1 s1.heap.objs.size = none := I1.hok.fresh (Nat.le_refl _)
  refine ⟨.ref s1.heap.objs.size, upd H1 s1.heap.objs.size (.lst xs), I1.laid (t' := s1.toks) (fun b u e => Heap.get?_push_of_some _ e) (Nat.le_refl _) ?_, rfl, q _ hf⟩
  exact ⟨z, us, 0, r, Heap.get?_push_size _ rfl⟩
end
noncomputable abbrev Sp := List V → Hp → VK → XK → Prop
noncomputable abbrev CXT := List Env → Hp → Shared → XK → Value → Shared → Prop
set_option genInjectivity false in
structure Env0 (P : Program) (w : World) (K : PySem.W.Frag) (mg : Str → Option Value) (base : Heap) (A : Around) (outer : List Env) (s : Shared) (H : Hp) : Prop where
  frames : A.frames = some outer
  mod : Mod K mg base
  bs : ∀ b o, base.get? b = some o → s.heap.get? b = some o ∧ H b = none
  bsz : base.objs.size ≤ s.heap.objs.size
  funs : s.heap.FunFrames base outer
  frf : ∀ b ∈ frs outer, H b = none
  hok : HOk P w H s.heap
  bare : AllBare s.gens
noncomputable def CE (outer : List Env) (P : Program) (w : World) (H : Hp) (s : Shared) (Q : VK) (u : Value) (s' : Shared) : Prop :=
  ∃ v H', s'.os = s.os ∧ AllBare s'.gens ∧ Un (frs outer) [] H H' s.heap s'.heap ∧ HOk P w H' s'.heap ∧ RelV v u ∧ Q v H'
noncomputable def CR (CX : CXT) (outer : List Env) (P : Program) (w : World) (H : Hp) (s : Shared) (Q : VK) (E : XK) (r : Result) (s' : Shared) : Prop :=
  match r with
  | .ok (.ret u) => CE outer P w H s Q u s'
  | .ok _ => False
  | .error e => CX outer H s E e s'
set_option genInjectivity false in
structure FnOk (P : Program) (w : World) (K : PySem.W.Frag) (mg : Str → Option Value) (base : Heap) (CX : CXT) (k : Nat) (f : Addr) (fd : FuncData) (ps : List Str) (sp : Sp) : Prop where
  len : ∀ vs H Q E, sp vs H Q E → vs.length = ps.length
  run : ∀ (A : Around) (outer : List Env) (s : Shared) (H : Hp) (args : Args) (us : List Value) (vs : List V) (Q : VK) (E : XK), Room k A → Env0 P w K mg base A outer s H → BindsTo s fd args (ps.zip us) → Vals vs us → sp vs H Q E →
    codeAny (model P w) A (.call (.ref f) args) (CR CX outer P w H s Q E) s
theorem Env0.make {P : Program} {w : World} {K : PySem.W.Frag} {mg : Str → Option Value} {base : Heap} {A : Around} {outer : List Env} {s : Shared} {H : Hp} (e : Env0 P w K mg base A outer s H) (C : Addr) (us : List Value) (kw : List (Str × Value)) :
    Env0 P w K mg base (A.under (.builtin "type.__call__" ⟨.ref C :: us, kw⟩)) outer s H := ⟨by first | exact e.frames | (simpa [Around.under, Code.envs, Code.isFrame, pushEnvs] using e.frames), e.mod, e.bs, e.bsz, e.funs, e.frf, e.hok, e.bare⟩
section
variable {X : Cx} {pins : List (Addr × Obj)} {σ : St} {H : Hp} {s s' : Shared}
theorem Inv.env0 (I : Inv X pins σ H s) : Env0 X.prog X.w X.K X.mg X.base X.A X.stack s H :=
  ⟨I.ok.frames, I.ok.mod, I.bs, Nat.le_trans I.ok.bsz I.sz, I.stack, I.stkFree, I.hok, I.bare⟩
theorem Inv.after {Q : VK} {u : Value} (I : Inv X pins σ H s) (h : CE X.stack X.prog X.w H s Q u s') : EP X pins σ Q u s' := by
  obtain ⟨v, H', os, bare, un, hok, r, q⟩ := h
  obtain ⟨hh, g, d, t, os'⟩ := s'
  obtain rfl : os' = s.os := os
  exact ⟨v, H', I.call (h' := hh) (g' := g) (d' := d) (t' := t) (ch := []) un hok bare (fun b z => absurd z (by simp)), r, q⟩
end
noncomputable def tCall (sp : Sp) (dvs : List V) (E : XK) (t : TA) : TE := fun σ H Q => t σ H fun vs H1 => sp (vs ++ dvs) H1 Q E
noncomputable def tMeth (C : Addr) (m : Str) (sp : Sp) (dvs : List V) (E : XK) (ta : TE) (t : TA) : TE := fun σ H Q => ta σ H fun x H1 => ∃ a dx fs, x = .ref a ∧ H1 a = some (.ins C dx fs) ∧ fs.lookup m = none ∧
  t σ H1 fun vs H2 => sp (x :: (vs ++ dvs)) H2 Q E
noncomputable def tMake (C : Addr) (sp : Sp) (dvs : List V) (E : XK) (t : TA) : TE := fun σ H Q => t σ H fun vs H1 => ∀ x dx, H1 x = none → H1 dx = none → dx ≠ x →
  sp (.ref x :: (vs ++ dvs)) (upd (upd H1 dx (.own x)) x (.ins C dx [])) (fun v H2 => v = .non ∧ Q (.ref x) H2) E
noncomputable def Binds (K : PySem.W.Frag) (fd : FuncData) (ps : List Str) (ds : List Value) : Prop :=
  ∀ (s : Shared) (us : List Value), K.In s.heap → (us ++ ds).length = ps.length → BindsTo s fd ⟨us, []⟩ (ps.zip (us ++ ds))
theorem Binds.all {K : PySem.W.Frag} {fd : FuncData} {ps : List Str} (h : ∀ us : List Value, us.length = ps.length → bindArgs fd ⟨us, []⟩ = pure (ps.zip us)) : Binds K fd ps [] := fun s us _ hl => by
  rw [List.append_nil] at hl ⊢
  exact .of_eq (h us hl)
noncomputable def Passes (CX : CXT) (X : Cx) (E : XK) : Prop := ∀ (pins : List (Addr × Obj)) (σ : St) (H : Hp) (s : Shared) (e : Value) (s' : Shared), Inv X pins σ H s → CX X.stack H s E e s' → X.xe e s'
section
variable {X : Cx} {CX : CXT} {k : Nat} {f C : Addr} {fd : FuncData} {ps : List Str} {sp : Sp} {dvs : List V} {ds : List Value} {E : XK} {x m : Str} {p pos apos : Pos} {e o : Expr} {es : List Expr} {ta : TE} {t : TA}
theorem run_fn {pins : List (Addr × Obj)} {σ : St} {H : Hp} {s : Shared} {Q : VK} {us : List Value} {vs : List V} (F : FnOk X.prog X.w X.K X.mg X.base CX k f fd ps sp) (hr : Room k X.A) (hb : Binds X.K fd ps ds) (hd : Vals dvs ds) (hx : Passes CX X E)
    (I : Inv X pins σ H s) (r : Vals vs us) (h : sp (vs ++ dvs) H Q E) : wpAny (model X.prog X.w) X.A (call (.ref f) us) (EP X pins σ Q) X.xe s := by
  have r2 : Vals (vs ++ dvs) (us ++ ds) := r.append hd
  have hl : (us ++ ds).length = ps.length := by rw [← r2.length]; exact F.len _ _ _ _ h
  refine wpAny_call (codeAny_mono (F.run X.A X.stack s H ⟨us, []⟩ (us ++ ds) (vs ++ dvs) Q E hr I.env0 (hb s us I.kIn hl) r2 h) fun r s' hq => ?_)
  cases r with
  | error e => exact hx pins σ H s e s' I hq
  | ok fl =>
    cases fl with
    | ret u => exact I.after hq
    | next => exact False.elim hq
    | brk => exact False.elim hq
    | cont => exact False.elim hq
theorem pe_call (F : FnOk X.prog X.w X.K X.mg X.base CX k f fd ps sp) (hr : Room k X.A) (hg : Gl X x) (hm : X.mg x = some (.ref f)) (hk : PySem.W.keepIn X.K (.ref f) = true) (hb : Binds X.K fd ps ds) (hd : Vals dvs ds) (hx : Passes CX X E)
    (ha : PA X (e :: es) t) (hdb : (x == ("__debug__" : Str)) = false := by decide) (he : starEach (e :: es) X.env = (false, eval e X.env) :: starEach es X.env := by rfl) (hpl : (backTo pos (starEach es X.env)).any (·.1) = false := by rfl) :
    PE X (.Call (.Name x p) (e :: es) [] pos) (tCall sp dvs E t) := by
  intro pins s σ H Q I h
  refine wpAny_Call_Name_kw (ld_glob I hg hm ?_ hdb)
  refine PySem.W.callWith_K (h₀ := X.base) I.ok.mod.kin hk (thn (ha pos pins s σ H _ I h) fun us s1 hq5 => ?_) he hpl
  obtain ⟨vs, H1, I1, r, q⟩ := hq5
  refine ⟨I1.kIn, ?_⟩
  exact run_fn F hr hb hd hx I1 r q
theorem pe_meth {pl : Sem Bool} (he : PE X o ta) (c : Cls X.K C) (hm : Meth X.K C m f) (F : FnOk X.prog X.w X.K X.mg X.base CX k f fd ps sp) (hr : Room k X.A) (hb : Binds X.K fd ps ds) (hd : Vals dvs ds) (hx : Passes CX X E) (ha : PA X (e :: es) t)
    (hst : starEach (e :: es) X.env = (false, eval e X.env) :: starEach es X.env := by rfl) (hpl : (backTo pos (starEach es X.env)).any (·.1) = false := by rfl)
    (ht : eval (.Call (.Attribute o m apos) (e :: es) [] pos) X.env = (do
      let ov ← eval o X.env
      standAt apos.atName
      let (f, first) ← holding [ov] (getMethod ov m pl)
      callWith pos f first (backTo pos (starEach (e :: es) X.env)) (backToKw pos (keywordEach [] X.env))) := by rfl) :
    PE X (.Call (.Attribute o m apos) (e :: es) [] pos) (tMeth C m sp dvs E ta t) := by
  intro pins s σ H Q I h
  refine PySem.W.methodCall_KW (pl := pl) (thn (he pins s σ H _ I h) fun u s1 hpat => ?_) ht
  obtain ⟨x, H1, I1, rx, a, dx, fs, ex, ea, l, q⟩ := hpat
  subst ex
  obtain rfl : u = Value.ref a := rx
  refine getmeth_ok I1 ea c hm l ?_
  refine PySem.W.callWith_K (first := [.ref a]) (h₀ := X.base) I.ok.mod.kin hm.kp (thn (ha pos pins s1 σ H1 _ I1 q) fun us s2 hq6 => ?_) hst hpl
  obtain ⟨vs, H2, I2, r, q2⟩ := hq6
  refine ⟨I2.kIn, ?_⟩
  exact run_fn (us := .ref a :: us) (vs := .ref a :: vs) F hr hb hd hx I2 (.cons rfl r) q2
theorem pe_meth0 {pl : Sem Bool} (he : PE X o ta) (c : Cls X.K C) (hm : Meth X.K C m f) (F : FnOk X.prog X.w X.K X.mg X.base CX k f fd ps sp) (hr : Room k X.A) (hb : Binds X.K fd ps ds) (hd : Vals dvs ds) (hx : Passes CX X E)
    (ht : eval (.Call (.Attribute o m apos) [] [] pos) X.env = (do
      let ov ← eval o X.env
      standAt apos.atName
      let (f, first) ← holding [ov] (getMethod ov m pl)
      callWith pos f first (backTo pos (starEach [] X.env)) (backToKw pos (keywordEach [] X.env))) := by rfl) :
    PE X (.Call (.Attribute o m apos) [] [] pos) (tMeth C m sp dvs E ta tNil) := by
  intro pins s σ H Q I h
  refine PySem.W.methodCall_KW (pl := pl) (thn (he pins s σ H _ I h) fun u s1 hpat => ?_) ht
  obtain ⟨x, H1, I1, rx, a, dx, fs, ex, ea, l, q⟩ := hpat
  subst ex
  obtain rfl : u = Value.ref a := rx
  refine getmeth_ok I1 ea c hm l ?_
  exact PySem.W.callWith_K0 (first := [.ref a]) I1.kIn hm.kp (run_fn (us := [.ref a]) (vs := [.ref a]) F hr hb hd hx I1 (.cons rfl .nil) q)
set_option genInjectivity false in
structure Mk (K : PySem.W.Frag) (C f : Addr) : Prop where
  makes : PySem.W.makesIn K C = true
  init : PySem.W.findIn K (.ref C) "__init__" = some (some (.ref f))
  fn : PySem.W.isFn K (.ref f) = true
  kp : PySem.W.keepIn K (.ref C) = true
theorem run_make {pins : List (Addr × Obj)} {σ : St} {H : Hp} {s : Shared} {Q : VK} {us : List Value} {vs : List V} (M : Mk X.K C f) (F : FnOk X.prog X.w X.K X.mg X.base CX k f fd ps sp) (hr : Room (k + 1) X.A) (hb : Binds X.K fd ps ds) (hd : Vals dvs ds)
    (hx : Passes CX X E) (I : Inv X pins σ H s) (r : Vals vs us)
    (h : ∀ x dx, H x = none → H dx = none → dx ≠ x → sp (.ref x :: (vs ++ dvs)) (upd (upd H dx (.own x)) x (.ins C dx [])) (fun v H2 => v = .non ∧ Q (.ref x) H2) E) :
    wpAny (model X.prog X.w) X.A (call (.ref C) us) (EP X pins σ Q) X.xe s := by
  have hq := h (s.heap.objs.size + 1) s.heap.objs.size (I.hok.fresh (Nat.le_succ _)) (I.hok.fresh (Nat.le_refl _)) (Nat.ne_of_lt (Nat.lt_succ_self _))
  have I2 := Inv.made (C := C) I
  have r2 : Vals (V.ref (s.heap.objs.size + 1) :: (vs ++ dvs)) (Value.ref (s.heap.objs.size + 1) :: (us ++ ds)) := .cons rfl (r.append hd)
  have hl : (Value.ref (s.heap.objs.size + 1) :: us ++ ds).length = ps.length := by
    have e := r2.length
    rw [F.len _ _ _ _ hq] at e
    exact e.symm
  refine wpAny_call (make_map (f := f) I.kIn M.makes M.init (beq_iff_eq.mp M.fn) (codeAny_mono (F.run _ X.stack _ _ ⟨Value.ref (s.heap.objs.size + 1) :: us, []⟩ (Value.ref (s.heap.objs.size + 1) :: (us ++ ds)) _ _ E (hr.make C us [])
    (I2.env0.make C us []) (hb _ (Value.ref (s.heap.objs.size + 1) :: us) I2.kIn hl) r2 hq) fun r s' hq' => ?_))
  cases r with
  | error e => exact hx pins σ _ _ e s' I2 hq'
  | ok fl =>
    cases fl with
    | ret u =>
      obtain ⟨v, H', I3, rv, ev, q3⟩ := I2.after hq'
      subst ev
      exact ⟨rv, ⟨V.ref (s.heap.objs.size + 1), H', I3, rfl, q3⟩⟩
    | next => exact False.elim hq'
    | brk => exact False.elim hq'
    | cont => exact False.elim hq'
theorem pe_make (M : Mk X.K C f) (F : FnOk X.prog X.w X.K X.mg X.base CX k f fd ps sp) (hr : Room (k + 1) X.A) (hg : Gl X x) (hm : X.mg x = some (.ref C)) (hb : Binds X.K fd ps ds) (hd : Vals dvs ds) (hx : Passes CX X E)
    (ha : PA X (e :: es) t) (hdb : (x == ("__debug__" : Str)) = false := by decide) (he : starEach (e :: es) X.env = (false, eval e X.env) :: starEach es X.env := by rfl) (hpl : (backTo pos (starEach es X.env)).any (·.1) = false := by rfl) :
    PE X (.Call (.Name x p) (e :: es) [] pos) (tMake C sp dvs E t) := by
  intro pins s σ H Q I h
  refine wpAny_Call_Name_kw (ld_glob I hg hm ?_ hdb)
  refine PySem.W.callWith_K (h₀ := X.base) I.ok.mod.kin M.kp (thn (ha pos pins s σ H _ I h) fun us s1 hq7 => ?_) he hpl
  obtain ⟨vs, H1, I1, r, q⟩ := hq7
  refine ⟨I1.kIn, ?_⟩
  exact run_make M F hr hb hd hx I1 r q
end
section
variable {X : Cx} {CX : CXT} {k : Nat} {f C : Addr} {fd : FuncData} {ps ks : List Str} {sp : Sp} {E : XK} {x m : Str} {p pos apos kpos : Pos} {e o : Expr} {es : List Expr} {kws : List Keyword} {te ta : TE} {t tk : TA} {nm : Option Str}
variable {g : List Value → List Value → List Value} {gV : List V → List V → List V}
end
set_option genInjectivity false in
structure FnScope (N P : List Str) (sc : Scope) : Prop where
  kind : sc.kind = .function
  co : sc.isCoroutine = false
  gen : sc.isGenerator = false
  nd : N.Nodup
  pre : N.take P.length = P
  par : ∀ x ∈ P, sc.names.lookup x = some .local ∨ sc.names.lookup x = some .cell
  nofree : ∀ y ∈ sc.names, y.2 ≠ .free
theorem bindL_out {kindOf : Str → Option NameKind} {x : Str} : ∀ {binds : List (Str × Value)} {m : Str → Option Value}, (∀ v, (x, v) ∉ binds) → bindL kindOf binds m x = m x
  | [], _, _ => rfl
  | (n, v) :: r, m, h => by
    unfold bindL
    rw [bindL_out fun w hw => h w (List.mem_cons_of_mem _ hw)]
    split
    · have : x ≠ n := by rintro rfl; exact h v List.mem_cons_self
      simp [this]
    · rfl
theorem bindC_out {kindOf : Str → Option NameKind} {x : Str} : ∀ {binds : List (Str × Value)} {m : Str → Option Value}, (∀ v, (x, v) ∉ binds) → bindC kindOf binds m x = m x
  | [], _, _ => rfl
  | (n, v) :: r, m, h => by
    unfold bindC
    rw [bindC_out fun w hw => h w (List.mem_cons_of_mem _ hw)]
    split
    · rfl
    · have : x ≠ n := by rintro rfl; exact h v List.mem_cons_self
      simp [this]
theorem bindL_get {kindOf : Str → Option NameKind} {x : Str} {v : Value} : ∀ {P : List Str} {vs : List Value} {i : Nat} {m : Str → Option Value}, P.Nodup → P[i]? = some x → vs[i]? = some v → kindOf x = some .local →
    bindL kindOf (P.zip vs) m x = some v
  | [], _, _, _, _, h, _, _ => by simp at h
  | _ :: _, [], _, _, _, _, h, _ => by simp at h
  | p :: P, w :: vs, 0, m, nd, h1, h2, hk => by
    simp at h1 h2; subst h1; subst h2
    show bindL kindOf ((p, w) :: P.zip vs) m p = _
    unfold bindL
    rw [bindL_out fun v hv => (List.nodup_cons.mp nd).1 (List.of_mem_zip hv).1, if_pos hk]
    simp
  | p :: P, w :: vs, i + 1, m, nd, h1, h2, hk => by
    show bindL kindOf ((p, w) :: P.zip vs) m x = _
    unfold bindL
    exact bindL_get (i := i) (List.nodup_cons.mp nd).2 (by simpa using h1) (by simpa using h2) hk
theorem bindC_get {kindOf : Str → Option NameKind} {x : Str} {v : Value} : ∀ {P : List Str} {vs : List Value} {i : Nat} {m : Str → Option Value}, P.Nodup → P[i]? = some x → vs[i]? = some v → kindOf x ≠ some .local →
    bindC kindOf (P.zip vs) m x = some v
  | [], _, _, _, _, h, _, _ => by simp at h
  | _ :: _, [], _, _, _, _, h, _ => by simp at h
  | p :: P, w :: vs, 0, m, nd, h1, h2, hk => by
    simp at h1 h2; subst h1; subst h2
    show bindC kindOf ((p, w) :: P.zip vs) m p = _
    unfold bindC
    rw [bindC_out fun v hv => (List.nodup_cons.mp nd).1 (List.of_mem_zip hv).1, if_neg hk]
    simp
  | p :: P, w :: vs, i + 1, m, nd, h1, h2, hk => by
    show bindC kindOf ((p, w) :: P.zip vs) m x = _
    unfold bindC
    exact bindC_get (i := i) (List.nodup_cons.mp nd).2 (by simpa using h1) (by simpa using h2) hk
noncomputable def start (N : List Str) (vs : List V) : St := vs.map some ++ List.replicate (N.length - vs.length) none
noncomputable def cxOf (CX : CXT) (P : Program) (w : World) (K : PySem.W.Frag) (mg : Str → Option Value) (base : Heap) (N : List Str) (qual : Str) (scope : Scope) (f : Addr) (cd : Value) (A : Around) (outer : List Env) (s : Shared) (H : Hp) (E : XK) : Cx where
  prog := P
  w := w
  K := K
  mg := mg
  base := base
  A := A.deeper (envOfC qual scope s.heap.objs.size f cd)
  N := N
  s₀ := s
  H₀ := H
  env := envOfC qual scope s.heap.objs.size f cd
  outer := outer
  stack := envOfC qual scope s.heap.objs.size f cd :: outer
  ex := []
  calm := true
  fn := fun _ => true
  pn := []
  xe := fun e s' => wpAny (model P w) (A.deeper (envOfC qual scope s.heap.objs.size f cd)) (leaving (envOfC qual scope s.heap.objs.size f cd) e) (fun _ s'' => CX outer H s E e s'') (fun e' s'' => CX outer H s E e' s'') s'
theorem cell_has {sc : Scope} {n : Nat} {x : Str} (h : sc.names.lookup x = some .cell) : ∃ c, (cellsFrom n sc.names []).lookup x = some c := by
  have q := PySem.W.cellsFrom_some sc.names n [] (.inl h)
  exact Option.isSome_iff_exists.mp q
theorem inv_start {CX : CXT} {P : Program} {w : World} {K : PySem.W.Frag} {mg : Str → Option Value} {base : Heap} {N ps : List Str} {qual : Str} {scope : Scope} {f : Addr} {cd : Value} {A : Around} {outer : List Env} {s s1 : Shared} {H : Hp} {E : XK} {us : List Value} {vs : List V}
    (S : FnScope N ps scope) (hd : A.handled = none) (e0 : Env0 P w K mg base A outer s H) (hl : vs.length = ps.length) (r : Vals vs us)
    (x : InCallC s s.heap.objs.size (bindL (envOfC qual scope s.heap.objs.size f cd).kindOf (ps.zip us) fun _ => none) (cellsFrom (s.heap.objs.size + 1) scope.names []) (bindC (envOfC qual scope s.heap.objs.size f cd).kindOf (ps.zip us) fun _ => none) s1) :
    Inv (cxOf CX P w K mg base N qual scope f cd A outer s H E) [] (start N vs) H s1 := by
  have hpl : ps.length ≤ N.length := by have := congrArg List.length S.pre; rw [List.length_take] at this; omega
  obtain ⟨h1, tk, rfl, hk⟩ := x.done
  have noA : ∀ b : Addr, b ∉ (cxOf CX P w K mg base N qual scope f cd A outer s H E).ex := fun b z => absurd (show b ∈ ([] : List Addr) from z) (by simp)
  refine ⟨⟨e0.mod, S.kind, rfl, rfl, Nat.le_refl _, fun y z c h1 h2 => ?_, fun y hy => ?_, fun y c _ h => ?_, fun _ => hd, Around.frames_deeper e0.frames, .inr ⟨rfl, rfl⟩, fun b z => absurd z (noA b), e0.bs, e0.bsz, fun b _ _ => noA b, fun b z => absurd z (noA b), e0.funs, e0.frf⟩,
    rfl, e0.bare, Un.kept hk, ⟨_, x.toInCall.ns, fun i y v h1 h2 h3 => ?_⟩, fun y c h => ⟨_, x.cell y c h⟩, e0.hok.fresh (Nat.le_refl _), fun y c h => ?_, fun p hp => absurd (show p ∈ ([] : List (Addr × Obj)) from hp) (by simp), e0.hok.kept hk, ?_⟩
  · exact name_of_addr x.apart (PySem.mem_of_lookup h1) (PySem.mem_of_lookup h2)
  · have hy : scope.names.lookup y = some .cell ∨ scope.names.lookup y = some .free := hy
    rcases hy with hy | hy
    · exact cell_has hy
    · exact absurd rfl (S.nofree _ (PySem.mem_of_lookup hy))
  · exact Nat.le_of_lt (x.above y c (PySem.mem_of_lookup h))
  · have hi : i < vs.length := by
      unfold start at h2
      by_cases hi : i < vs.length
      · exact hi
      · rw [List.getElem?_append_right (by simpa using hi)] at h2
        rw [List.getElem?_replicate] at h2
        split at h2 <;> cases h2
    have ha : vs[i]? = some v := by
      unfold start at h2
      rw [List.getElem?_append_left (by simpa using hi), List.getElem?_map] at h2
      cases e : vs[i]? with
      | none => rw [e] at h2; cases h2
      | some a => rw [e] at h2; cases h2; rfl
    obtain ⟨u, hu, rv⟩ := r.get ha
    have hp : ps[i]? = some y := by
      rw [← S.pre, List.getElem?_take_of_lt (by omega)]; exact h1
    have ndP : ps.Nodup := by rw [← S.pre]; exact S.nd.sublist (List.take_sublist _ _)
    refine ⟨u, rv, ?_⟩
    rcases S.par y (List.mem_of_getElem? hp) with k | k
    · exact .inl ⟨k, bindL_get ndP hp hu k⟩
    · obtain ⟨c, e⟩ := cell_has (n := s.heap.objs.size + 1) k
      refine .inr ⟨.inl k, c, e, ?_⟩
      have q := x.cell y c e
      rw [bindC_get ndP hp hu (by show scope.names.lookup y ≠ _; rw [k]; decide)] at q
      exact q
  · exact e0.hok.fresh (Nat.le_of_lt (x.above y c (PySem.mem_of_lookup h)))
  · unfold start
    show _ = N.length
    rw [List.length_append, List.length_map, List.length_replicate]
    omega
theorem fn_of {CX : CXT} {P : Program} {w : World} {K : PySem.W.Frag} {mg : Str → Option Value} {base : Heap} {k : Nat} {f : Addr} {name qual : Str} {params : Arguments} {body : List Stmt} {scope : Scope} {dV kV doc pm cdv ct oc : Value} {an od : Option Addr}
    {osl : Array (Option Value)} {N ps : List Str} {sp : Sp} (lk : K.lookup f = some ⟨oc, od, .func (PySem.W.fnOf name qual params body scope dV kV doc pm an cdv ct), osl⟩) (hcd : PySem.W.codeIn K cdv qual = true) (S : FnScope N ps scope)
    (len : ∀ vs H Q E, sp vs H Q E → vs.length = ps.length)
    (hbody : ∀ (A : Around) (outer : List Env) (s : Shared) (H : Hp) (vs : List V) (Q : VK) (E : XK), Room k (A.deeper (envOfC qual scope s.heap.objs.size f cdv)) → sp vs H Q E →
      ∃ t, PSs (cxOf CX P w K mg base N qual scope f cdv A outer s H E) body t ∧ t { nx := fun _ H' => Q .non H', rt := Q } (start N vs) H) :
    FnOk P w K mg base CX (k + 1) f (PySem.W.fnOf name qual params body scope dV kV doc pm an cdv ct) ps sp := by
  refine ⟨len, fun A outer s H args us vs Q E hr e0 hb r hsp => ?_⟩
  have hl := len _ _ _ _ hsp
  have KX : K.In s.heap := e0.mod.kin.keeps fun b o e => (e0.bs b o e).1
  have lim : s.heap.NoLimit := e0.mod.nolimit.keeps fun b o e => (e0.bs b o e).1
  have hkind : ∀ y ∈ ps.zip us, scope.names.lookup y.1 = some .local ∨ (scope.names.lookup y.1 = some .cell ∧ ((cellsFrom (s.heap.objs.size + 1) scope.names []).lookup y.1).isSome = true) := fun ⟨n, v⟩ hy => by
    rcases S.par n (List.of_mem_zip hy).1 with q | q
    · exact .inl q
    · exact .inr ⟨q, PySem.W.cellsFrom_some _ _ _ (.inl q)⟩
  refine codeAny_call_function hr.depth (KX _ _ lk) rfl S.co S.gen rfl (PySem.W.codeRec_of KX hcd) (hb _ _ _ _ ?_)
  refine wpAny_newFunctionEnv_cells S.kind hkind fun env he s1 x => ?_
  subst he
  refine ⟨lim.keeps x.toInCall.keep, codeAny_func ?_⟩
  obtain ⟨t, ht, hq⟩ := hbody A outer s H vs Q E (hr.deeper _) hsp
  have I : Inv (cxOf CX P w K mg base N qual scope f cdv A outer s H E) [] (start N vs) H s1 := inv_start S hr.hd e0 hl r x
  refine wpAny_mono (ht [] s1 (start N vs) H _ I hq) (fun fl s' hs => ?_) fun e s' hs => hs
  have fin : ∀ {σ' : St} {H' : Hp} {v : V} {u : Value}, Inv (cxOf CX P w K mg base N qual scope f cdv A outer s H E) [] σ' H' s' → RelV v u → Q v H' → CE outer P w H s Q u s' :=
    fun {σ' H' v u} J rv q => ⟨v, H', J.os, J.bare, J.base, J.hok, rv, q⟩
  cases fl with
  | ret u =>
    obtain ⟨v, σ', H', J, rv, q⟩ := hs
    exact fin J rv q
  | next =>
    obtain ⟨σ', H', J, q⟩ := hs
    exact fin (v := V.non) (u := Value.none) J rfl q
  | brk =>
    obtain ⟨_, _, _, q⟩ := hs
    exact False.elim q
  | cont =>
    obtain ⟨_, _, _, q⟩ := hs
    exact False.elim q
end L2
namespace L2
open PySem PySem.Spec PyProof.Rows
section
variable {X : Cx} {x : Str} {p pos : Pos} {e : Expr} {es : List Expr} {t : TA} {id T : String} {r : List V → Hp → VK → Prop}
noncomputable def tCB (r : List V → Hp → VK → Prop) (t : TA) : TE := fun σ H Q => t σ H fun vs H1 => r vs H1 Q
theorem pe_callB (hc : CallR X (.builtin id) r) (hg : Gl X x) (hm : X.mg x = none) (hv : bootBuiltins x = some (.builtin id)) (ha : PA X (e :: es) t) (hn : x ≠ "__name__" := by decide) (hdb : (x == ("__debug__" : Str)) = false := by decide)
    (he : starEach (e :: es) X.env = (false, eval e X.env) :: starEach es X.env := by rfl) (hpl : (backTo pos (starEach es X.env)).any (·.1) = false := by rfl) : PE X (.Call (.Name x p) (e :: es) [] pos) (tCB r t) := by
  intro pins s σ H Q I h
  refine wpAny_Call_Name_kw (ld_blt I hg hm hv ?_ hn hdb)
  exact PyProof.Rows.callWith_builtin1 (thn (ha pos pins s σ H _ I h) fun us s1 hpat => by obtain ⟨vs, H1, I1, r1, q1⟩ := hpat; exact hc pins s1 σ H1 vs us Q I1 r1 q1) he hpl
theorem pe_callTy (hc : CallR X (.type T) r) (hg : Gl X x) (hm : X.mg x = none) (hv : bootBuiltins x = some (.type T)) (ha : PA X (e :: es) t) (hn : x ≠ "__name__" := by decide) (hdb : (x == ("__debug__" : Str)) = false := by decide)
    (he : starEach (e :: es) X.env = (false, eval e X.env) :: starEach es X.env := by rfl) (hpl : (backTo pos (starEach es X.env)).any (·.1) = false := by rfl) : PE X (.Call (.Name x p) (e :: es) [] pos) (tCB r t) := by
  intro pins s σ H Q I h
  refine wpAny_Call_Name_kw (ld_blt I hg hm hv ?_ hn hdb)
  exact PyProof.Rows.callWith_type1 (thn (ha pos pins s σ H _ I h) fun us s1 hpat => by obtain ⟨vs, H1, I1, r1, q1⟩ := hpat; exact hc pins s1 σ H1 vs us Q I1 r1 q1) he hpl
end
end L2
namespace HT
open PySem PyProof.Rows
section
open PySem.SeqAt
open PySem.AutoSeq1 (wpAny_loadPart')
open PySem.MeetsSeq PySem.MeetsSeq2 PySem.MeetsSeq3
end
section
variable {prog : Program} {w : World} {A : Around} {E : Value → Shared → Prop} {s : Shared}
theorem cat_tup {t b : Addr} {vs ws : List Value} {Q : Value → Shared → Prop} (ht : IsTup s.heap t vs.toArray) (hb : IsTup s.heap b ws.toArray) (hv : vs ≠ [])
    (h1 : ws = [] → Q (.ref t) s) (h2 : ws ≠ [] → Q (.ref s.heap.objs.size) { s with heap := s.heap.push { cls := .type "tuple", data := .seq (vs ++ ws).toArray } })
    (hsz : vs.length + ws.length ≤ sizeLine) : wpAny (model prog w) A (binaryOp .Add (.ref t) (.ref b)) Q E s := by
  obtain ⟨⟨cls, dd, data, sl⟩, ho, hc, n, hd⟩ := id ht
  obtain ⟨⟨cls2, dd2, data2, sl2⟩, ho2, hc2, n2, hd2⟩ := id hb
  simp only at hc hd hc2 hd2
  subst hc hd hc2 hd2
  have e : vs.toArray ++ ws.toArray = (vs ++ ws).toArray := by simp
  by_cases hw : ws = []
  · exact concat_meets ⟨_, ho, rfl⟩ ⟨_, ho2, rfl⟩ noFill_tuple_add seq_tuple_add PySem.F.slot_tuple_add PySem.F.entry_tuple_add (PySem.F.args_tuple_add_2 _ _)
      (tuple_addW1 t b vs.toArray ws.toArray n n2 dd dd2 sl sl2 (by simpa using hv) (by simp [hw])) ⟨ho, ho2, h1 hw⟩
  · refine concat_meets ⟨_, ho, rfl⟩ ⟨_, ho2, rfl⟩ noFill_tuple_add seq_tuple_add PySem.F.slot_tuple_add PySem.F.entry_tuple_add (PySem.F.args_tuple_add_2 _ _)
      (tuple_addW2 t b vs.toArray ws.toArray n n2 dd dd2 sl sl2 (by simpa using hv) (by simpa using hw) (by rw [List.size_toArray, List.size_toArray]; exact hsz)) ⟨ho, ho2, ?_⟩
    rw [e]
    exact h2 hw
noncomputable def sIx (n d : Nat) : Option Int → Nat
  | none => d
  | some v => if v < 0 then (v + (n : Int)).toNat else min v.toNat n
theorem sIx_none (n d : Nat) : sIx n d none = d := rfl
theorem sIx_nat (n d k : Nat) : sIx n d (some (k : Int)) = min k n := by
  show (if (k : Int) < 0 then ((k : Int) + (n : Int)).toNat else min (k : Int).toNat n) = min k n
  rw [if_neg (by omega), Int.toNat_natCast]
end
end HT
namespace L2
open PySem PySem.Spec PyProof.Rows
noncomputable abbrev TO := St → Hp → (Option Int → Hp → Prop) → Prop
noncomputable def PO (X : Cx) (e : Option Expr) (t : TO) : Prop :=
  ∀ (pins : List (Addr × Obj)) (s : Shared) (σ : St) (H : Hp) (Q : Option Int → Hp → Prop), Inv X pins σ H s → t σ H Q →
    wpAny (model X.prog X.w) X.A (evalPart e X.env) (fun u s' => ∃ o H', Inv X pins σ H' s' ∧ IsPart u o ∧ Q o H') X.xe s
noncomputable def tNoPart : TO := fun _ H Q => Q none H
noncomputable def tPart (t : TE) : TO := fun σ H Q => t σ H fun x H1 => ∃ i, x = .int i ∧ Q (some i) H1
section
variable {X : Cx} {e : Expr} {te : TE} {lo hi : Option Expr} {tl th : TO} {pos p2 : Pos}
theorem po_none : PO X none tNoPart := by
  intro pins s σ H Q I h
  rw [evalPart_none]
  exact wpAny_pure ⟨none, H, I, .none, h⟩
theorem po_some (h : PE X e te) : PO X (some e) (tPart te) := by
  intro pins s σ H Q I hw
  rw [evalPart_some]
  refine thn (h pins s σ H _ I hw) fun u s1 hpat => ?_
  obtain ⟨x, H1, I1, r1, q1⟩ := hpat
  obtain ⟨i, rfl, q⟩ := q1
  obtain ⟨t, rfl⟩ := r1
  exact ⟨some i, H1, I1, .int i t, q⟩
noncomputable def SlR (X : Cx) (r : V → Option Int → Option Int → Hp → VK → Prop) : Prop :=
  ∀ (pins : List (Addr × Obj)) (s : Shared) (σ : St) (H : Hp) (x : V) (v vl vu : Value) (lo hi : Option Int) (sl : Addr) (Q : VK), Inv X pins σ H s → RelV x v → s.heap.IsSliceOf sl vl vu .none → IsPart vl lo → IsPart vu hi → r x lo hi H Q →
    ∃ T id, typeLookup (.type T) "__getitem__" = pure (some (.builtin id)) ∧ s.TypeIs v T ∧ wpAny (model X.prog X.w) X.A (getItem v (.ref sl)) (EP X pins σ Q) X.xe s
noncomputable def tSl (r : V → Option Int → Option Int → Hp → VK → Prop) (te : TE) (tl th : TO) : TE := fun σ H Q => te σ H fun x H1 => tl σ H1 fun l H2 => th σ H2 fun u H3 => r x l u H3 Q
theorem pe_slice {r : V → Option Int → Option Int → Hp → VK → Prop} (hr : SlR X r) (he : PE X e te) (hl : PO X lo tl) (hu : PO X hi th) : PE X (.Subscript e (.Slice lo hi none p2) pos) (tSl r te tl th) := by
  intro pins s σ H Q I h
  refine Subscript_ (thn (he pins s σ H _ I h) fun v s1 hpat => ?_)
  obtain ⟨x, H1, I1, r1, q1⟩ := hpat
  refine wpAny_Slice (thn (hl pins s1 σ H1 _ I1 q1) fun vl s2 hq8 => ?_)
  obtain ⟨l, H2, I2, pl, q2⟩ := hq8
  refine thn (hu pins s2 σ H2 _ I2 q2) fun vu s3 hpat => ?_
  obtain ⟨u, H3, I3, pu, q3⟩ := hpat
  rw [evalPart_none]
  refine wpAny_pure ?_
  have I4 : Inv X pins σ H3 { s3 with heap := s3.heap.push { cls := .type "slice", data := .fields #[vl, vu, .none] } } := I3.kept (t' := s3.toks) fun b ob q => Heap.get?_push_of_some _ q
  obtain ⟨T, id, hT, ht, hg⟩ := hr pins { s3 with heap := s3.heap.push { cls := .type "slice", data := .fields #[vl, vu, .none] } } σ H3 x v vl vu l u s3.heap.objs.size Q I4 r1 (Heap.IsSliceOf.new ..) pl pu q3
  show wpAny (model X.prog X.w) X.A (subscriptTail e (.Slice lo hi none p2) v (.ref s3.heap.objs.size)) (EP X pins σ Q) X.xe { s3 with heap := s3.heap.push { cls := .type "slice", data := .fields #[vl, vu, .none] } }
  exact tail_any (ops := [.ref s3.heap.objs.size, v]) ht hT hg (by with_unfolding_all rfl)
noncomputable def cutV (xs : List V) (lo hi : Option Int) : List V := (xs.drop (HT.sIx xs.length 0 lo)).take (HT.sIx xs.length xs.length hi - HT.sIx xs.length 0 lo)
theorem cutV_length (xs : List V) (lo hi : Option Int) : (cutV xs lo hi).length ≤ xs.length := by
  unfold cutV
  rw [List.length_take, List.length_drop]
  omega
noncomputable def rCatT (K : PySem.W.Frag) : R2 := fun x y H Q => ∃ a b xs ys, x = .ref a ∧ y = .ref b ∧ SqT K H a xs ∧ SqT K H b ys ∧ xs ≠ [] ∧ xs.length + ys.length ≤ sizeLine ∧
  (ys = [] → Q (.ref a) H) ∧ (ys ≠ [] → ∀ p, H p = none → Q (.ref p) (upd H p (.tup (xs ++ ys))))
theorem Vals.nil_iff {xs : List V} {us : List Value} (r : Vals xs us) : us = [] ↔ xs = [] := by
  cases r with
  | nil => simp
  | cons _ _ => simp
theorem op_catT : OpR X (binaryOp .Add) (rCatT X.K) := by
  intro pins s σ H x y v u Q I rx ry h
  obtain ⟨a, b, xs, ys, rfl, rfl, ha, hb, hx, hz, q1, q2⟩ := h
  cases rx
  cases ry
  obtain ⟨its, r1, p1, _⟩ := I.tuple ha
  obtain ⟨its2, r2, p2, _⟩ := I.tuple hb
  refine HT.cat_tup p1 p2 (fun z => hx (r1.nil_iff.mp z)) (fun z => ⟨.ref a, H, I, rfl, q1 (r2.nil_iff.mp z)⟩) (fun z => ?_) (by rw [← r1.length, ← r2.length]; exact hz)
  refine ⟨.ref s.heap.objs.size, _, I.laid (t' := s.toks) (o := .tup (xs ++ ys)) (fun b ob q => Heap.get?_push_of_some _ q) (Nat.le_refl _) ?_, rfl, q2 (fun w => z (r2.nil_iff.mpr w)) _ (I.hok.fresh (Nat.le_refl _))⟩
  exact ⟨by rw [List.length_append]; exact hz, _, r1.append r2, IsTup.new _ _⟩
end
end L2
namespace L2
open PySem PySem.Spec PyProof.Rows
noncomputable def ixN (n : Nat) (i : Int) : Option Nat := if 0 ≤ i then (if i < n then some i.toNat else none) else if -(n : Int) ≤ i then some (i + n).toNat else none
noncomputable def atI {α : Type} (xs : List α) (i : Int) : Option α := (ixN xs.length i).bind fun j => xs[j]?
theorem ixN_seq {n : Nat} {i : Int} {j : Nat} (h : ixN n i = some j) : seqIndex? i n = some j ∧ j < n ∧ -(n : Int) ≤ i ∧ i < n := by
  unfold ixN at h
  by_cases h0 : 0 ≤ i
  · rw [if_pos h0] at h
    by_cases h1 : i < n
    · rw [if_pos h1] at h
      have e : i.toNat = j := Option.some.inj h
      exact ⟨by rw [seqIndex_of h0 h1, e], by omega, by omega, h1⟩
    · rw [if_neg h1] at h; cases h
  · rw [if_neg h0] at h
    by_cases h1 : -(n : Int) ≤ i
    · rw [if_pos h1] at h
      have e : (i + n).toNat = j := Option.some.inj h
      exact ⟨by rw [seqIndex_neg (by omega) h1, e], by omega, h1, by omega⟩
    · rw [if_neg h1] at h; cases h
theorem atI_get {α : Type} {xs : List α} {i : Int} {v : α} (h : atI xs i = some v) : ∃ j, seqIndex? i xs.length = some j ∧ xs[j]? = some v ∧ j < xs.length ∧ -(xs.length : Int) ≤ i ∧ i < xs.length := by
  unfold atI at h
  cases e : ixN xs.length i with
  | none => rw [e] at h; cases h
  | some j =>
    rw [e] at h
    obtain ⟨h1, h2, h3, h4⟩ := ixN_seq e
    exact ⟨j, h1, h, h2, h3, h4⟩
theorem atI_nat {α : Type} {xs : List α} {j : Nat} {v : α} (h : xs[j]? = some v) : atI xs (j : Int) = some v := by
  have hj : j < xs.length := (List.getElem?_eq_some_iff.mp h).1
  have e : ixN xs.length (j : Int) = some j := by
    unfold ixN
    rw [if_pos (by omega), if_pos (by omega)]; simp
  unfold atI; rw [e]; exact h
noncomputable def PlainIx (b : Expr) : Prop := ∀ o i, subscripted b false o i = operate [o, i] (getItem o i)
noncomputable def IxR (X : Cx) (r : R2) : Prop :=
  ∀ (value slice : Expr) (pins : List (Addr × Obj)) (s : Shared) (σ : St) (H : Hp) (x y : V) (v u : Value) (Q : VK), Inv X pins σ H s → RelV x v → RelV y u → r x y H Q →
    subscripted slice false v u = operate [v, u] (getItem v u) → wpAny (model X.prog X.w) X.A (subscriptTail value slice v u) (EP X pins σ Q) X.xe s
noncomputable def MtR (X : Cx) (id : String) (r : V → List V → Hp → VK → Prop) : Prop :=
  ∀ (pins : List (Addr × Obj)) (s : Shared) (σ : St) (H : Hp) (x : V) (xs : List V) (v : Value) (us : List Value) (Q : VK), Inv X pins σ H s → RelV x v → Vals xs us → r x xs H Q →
    wpAny (model X.prog X.w) X.A (call (.builtin id) (v :: us)) (EP X pins σ Q) X.xe s
section
variable {X : Cx} {a b : Expr} {ta tb : TE} {pos : Pos}
theorem pe_ix {r : R2} (hr : IxR X r) (ha : PE X a ta) (hb : PE X b tb) (hs : PlainIx b) : PE X (.Subscript a b pos) (tOp r ta tb) := by
  intro pins s σ H Q I h
  exact Subscript_ (binT ha hb I h fun v u s2 x y H2 I2 rx ry q => hr a b pins s2 σ H2 x y v u Q I2 rx ry q (hs _ _))
noncomputable def rIxL (K : PySem.W.Frag) : R2 := fun x y H Q => ∃ p xs i v, x = .ref p ∧ y = .int i ∧ SqL K H p xs ∧ atI xs i = some v ∧ Q v H
noncomputable def rIxT (K : PySem.W.Frag) : R2 := fun x y H Q => ∃ p xs i v, x = .ref p ∧ y = .int i ∧ SqT K H p xs ∧ atI xs i = some v ∧ Q v H
noncomputable def rIxS : R2 := fun x y H Q => ∃ z i c, x = .str z ∧ y = .int i ∧ z.length ≤ sizeLine ∧ atI z.cps.toList i = some c ∧ Q (.str ⟨#[c]⟩) H
theorem ix_list : IxR X (rIxL X.K) := by
  intro value slice pins s σ H x y v u Q I rx ry h hs
  obtain ⟨p, xs, i, z, rfl, rfl, hq, he, q⟩ := h
  cases rx
  obtain ⟨t, rfl⟩ := ry
  obtain ⟨its, r, pl, hz⟩ := I.list hq
  obtain ⟨j, h1, h2, h3, h4, h5⟩ := atI_get he
  obtain ⟨w, ew, rw'⟩ := r.get h2
  have hl := r.length
  have hn := line63
  have fin : EP X pins σ Q w s := ⟨z, H, I, rw', q⟩
  by_cases h0 : 0 ≤ i
  · have hj : i.toNat = j := by
      rw [seqIndex_of h0 h5] at h1
      exact Option.some.inj h1
    exact item_listR pl.isList h0 (by omega) (by rw [hj]; simpa using ew) fin hs
  · have hj : (i + (its.toArray.size : Int)).toNat = j := by
      rw [seqIndex_neg (by omega) h4] at h1
      rw [List.size_toArray, ← hl]
      exact Option.some.inj h1
    exact subscriptTail_builtinR (x := w) pl.isList.typeIs slot_list_getitem.lookup
      (wpAny_getItem_list_neg (Q := fun r s' => r = w ∧ EP X pins σ Q r s') pl.isList (by omega) (by rw [List.size_toArray] <;> omega) (by omega) (by rw [hj]; simpa using ew) ⟨rfl, fin⟩) hs
theorem ix_tup : IxR X (rIxT X.K) := by
  intro value slice pins s σ H x y v u Q I rx ry h hs
  obtain ⟨p, xs, i, z, rfl, rfl, hq, he, q⟩ := h
  cases rx
  obtain ⟨t, rfl⟩ := ry
  obtain ⟨its, r, pl, hz⟩ := I.tuple hq
  obtain ⟨j, h1, h2, h3, h4, h5⟩ := atI_get he
  obtain ⟨w, ew, rw'⟩ := r.get h2
  have hl := r.length
  have hn := line63
  have fin : EP X pins σ Q w s := ⟨z, H, I, rw', q⟩
  exact subscriptTail_builtinR (x := w) pl.typeIs slot_tuple_getitem.lookup
    (getItem_tuple (j := j) (Q := fun r s' => r = w ∧ EP X pins σ Q r s') pl (by omega) (by omega) (by rw [List.size_toArray, ← hl]; exact h1) (by simpa using ew) ⟨rfl, fin⟩) hs
theorem ix_str : IxR X rIxS := by
  intro value slice pins s σ H x y v u Q I rx ry h hs
  obtain ⟨z, i, c, rfl, rfl, hz, he, q⟩ := h
  obtain ⟨t, rfl⟩ := rx
  obtain ⟨t', rfl⟩ := ry
  obtain ⟨j, h1, h2, h3, h4, h5⟩ := atI_get he
  have hl : z.cps.toList.length = z.length := by simp [Str.length]
  rw [hl] at h1 h4 h5
  have hn := line63
  exact tail_any (typeIs_str s z t) slot_str_getitem.lookup (getItem_str (c := c) (by
    have e1 : decide (i < -(2 ^ 63 : Int)) = false := decide_eq_false (by omega)
    have e2 : decide (i ≥ 2 ^ 63) = false := decide_eq_false (by omega)
    rw [e1, e2, Bool.or_false]) (by rw [h1]; simpa using h2) ⟨.str ⟨#[c]⟩, H, I.tok _, ⟨_, rfl⟩, q⟩) hs
theorem slice_bounds (lo hi : Option Int) (n : Nat) : (sliceBounds lo hi none n).1 = ((HT.sIx n 0 lo : Nat) : Int) ∧ (sliceBounds lo hi none n).2.1 = ((HT.sIx n n hi : Nat) : Int) ∧ (sliceBounds lo hi none n).2.2 = 1 := by
  refine ⟨?_, ?_, rfl⟩
  · cases lo with
    | none => simp [sliceBounds, HT.sIx]
    | some i =>
      simp only [sliceBounds, HT.sIx, Option.getD_none, show (1 : Int) > 0 by decide, if_true]
      by_cases h : i < 0
      · simp only [h, if_true] <;> omega
      · simp only [h, if_false] <;> omega
  · cases hi with
    | none => simp [sliceBounds, HT.sIx]
    | some i =>
      simp only [sliceBounds, HT.sIx, Option.getD_none, show (1 : Int) > 0 by decide, if_true]
      by_cases h : i < 0
      · simp only [h, if_true] <;> omega
      · simp only [h, if_false] <;> omega
theorem slicePick_cut (its : List Value) (lo hi : Option Int) : slicePick its.toArray lo hi none = ((its.drop (HT.sIx its.length 0 lo)).take (HT.sIx its.length its.length hi - HT.sIx its.length 0 lo)).toArray := by
  obtain ⟨h1, h2, h3⟩ := slice_bounds lo hi its.toArray.size
  unfold slicePick
  rw [h1, h2, h3]
  simp only [sliceRange_one, pick_run, List.size_toArray] <;> rfl
noncomputable def rSlL (K : PySem.W.Frag) : V → Option Int → Option Int → Hp → VK → Prop := fun x lo hi H Q => ∃ a xs, x = .ref a ∧ SqL K H a xs ∧ ∀ p, H p = none → Q (.ref p) (upd H p (.lst (cutV xs lo hi)))
theorem sl_list : SlR X (rSlL X.K) := by
  intro pins s σ H x v vl vu lo hi sl Q I rx hs pl pu h
  obtain ⟨a, xs, rfl, hx, q⟩ := h
  cases rx
  obtain ⟨its, r, ht, hz⟩ := I.list hx
  have hlen := r.length
  refine ⟨"list", _, slot_list_getitem.lookup, ht.isList.typeIs, ?_⟩
  refine wpAny_getItem_list_slice ht.isList hs pl pu .none (by simp) ?_ (by rw [List.size_toArray] <;> omega)
  rw [slicePick_cut, ← hlen]
  refine ⟨.ref s.heap.objs.size, _, I.laid (t' := s.toks) (o := .lst (cutV xs lo hi)) (fun b ob q => Heap.get?_push_of_some _ q) (Nat.le_refl _) ?_, rfl, q _ (I.hok.fresh (Nat.le_refl _))⟩
  exact ⟨Nat.le_trans (cutV_length xs lo hi) hz, _, 0, (r.drop (HT.sIx xs.length 0 lo)).take (HT.sIx xs.length xs.length hi - HT.sIx xs.length 0 lo), Heap.get?_push_size _ rfl⟩
noncomputable def flatV : V → Bool
  | .non => true
  | .bl _ => true
  | .int _ => true
  | .str _ => true
  | _ => false
noncomputable def eqV : V → V → Bool
  | .non, .non => true
  | .bl a, .bl b => a == b
  | .bl a, .int b => (if a then 1 else 0) == b
  | .int a, .bl b => a == (if b then 1 else 0)
  | .int a, .int b => a == b
  | .str a, .str b => a == b
  | _, _ => false
theorem eqAt_V {A : Around} {s : Shared} {y x : V} {u v : Value} (ry : RelV y u) (rx : RelV x v) (fy : flatV y = true) (fx : flatV x = true) : SeqAt.EqAt A s u v (eqV y x) := by
  cases y with
  | non =>
    cases ry
    cases x with
    | non => cases rx; exact SeqAt.EqAt.same _
    | bl b => cases rx; exact SeqAt.EqAt.none_bool b
    | int b => obtain ⟨t, rfl⟩ := rx; exact SeqAt.EqAt.none_int b t
    | str b => obtain ⟨t, rfl⟩ := rx; exact SeqAt.EqAt.none_str b t
    | _ => exact absurd (show false = true from fx) Bool.false_ne_true
  | bl a =>
    cases ry
    cases x with
    | non => cases rx; exact SeqAt.EqAt.bool_none a
    | bl b => cases rx; exact SeqAt.EqAt.bool_bool a b
    | int b => obtain ⟨t, rfl⟩ := rx; exact SeqAt.EqAt.bool_int a b t
    | str b => obtain ⟨t, rfl⟩ := rx; exact SeqAt.EqAt.bool_str a b t
    | _ => exact absurd (show false = true from fx) Bool.false_ne_true
  | int a =>
    obtain ⟨t', rfl⟩ := ry
    cases x with
    | non => cases rx; exact SeqAt.EqAt.int_none a t'
    | bl b => cases rx; exact SeqAt.EqAt.int_bool a t' b
    | int b => obtain ⟨t, rfl⟩ := rx; exact SeqAt.EqAt.int_int a t' b t
    | str b => obtain ⟨t, rfl⟩ := rx; exact SeqAt.EqAt.int_str a t' b t
    | _ => exact absurd (show false = true from fx) Bool.false_ne_true
  | str a =>
    obtain ⟨t', rfl⟩ := ry
    cases x with
    | non => cases rx; exact SeqAt.EqAt.str_none a t'
    | bl b => cases rx; exact SeqAt.EqAt.str_bool a t' b
    | int b => obtain ⟨t, rfl⟩ := rx; exact SeqAt.EqAt.str_int a t' b t
    | str b => obtain ⟨t, rfl⟩ := rx; exact SeqAt.EqAt.str_str a t' b t
    | _ => exact absurd (show false = true from fx) Bool.false_ne_true
  | _ => exact absurd (show false = true from fy) Bool.false_ne_true
noncomputable def eqU (x : V) (u : Value) : Bool := match u with
  | .none => eqV .non x
  | .bool b => eqV (.bl b) x
  | .int i _ => eqV (.int i) x
  | .str z _ => eqV (.str z) x
  | _ => false
theorem eqU_of {x y : V} {u : Value} (r : RelV y u) (f : flatV y = true) : eqU x u = eqV y x := by
  cases y with
  | non => cases r; rfl
  | bl b => cases r; rfl
  | int i => obtain ⟨t, rfl⟩ := r; rfl
  | str z => obtain ⟨t, rfl⟩ := r; rfl
  | _ => exact absurd (show false = true from f) Bool.false_ne_true
theorem any_eqU {x : V} : ∀ {xs : List V} {us : List Value}, Vals xs us → xs.all flatV = true → us.any (eqU x) = xs.any fun y => eqV y x
  | _, _, .nil, _ => rfl
  | y :: xs, u :: us, .cons r t, f => by
    rw [List.all_cons, Bool.and_eq_true] at f
    rw [List.any_cons, List.any_cons, eqU_of r f.1, any_eqU t f.2]
theorem mem_eqAt {A : Around} {s : Shared} {x : V} {v : Value} (rx : RelV x v) (fx : flatV x = true) : ∀ {xs : List V} {us : List Value}, Vals xs us → xs.all flatV = true → ∀ u ∈ us, SeqAt.EqAt A s u v (eqU x u)
  | _, _, .nil, _ => fun u hu => by cases hu
  | y :: xs, u :: us, .cons r t, f => fun u' hu => by
    rw [List.all_cons, Bool.and_eq_true] at f
    rcases List.mem_cons.mp hu with rfl | hu
    · rw [eqU_of r f.1]; exact eqAt_V r rx f.1 fx
    · exact mem_eqAt rx fx t f.2 u' hu
noncomputable def inV (x : V) (xs : List V) : Bool := xs.any fun y => eqV y x
noncomputable def rIn (K : PySem.W.Frag) (neg : Bool) : R2 := fun x y H Q => ∃ p xs, y = .ref p ∧ (SqL K H p xs ∨ SqT K H p xs) ∧ flatV x = true ∧ xs.all flatV = true ∧ Q (.bl (if neg then !inV x xs else inV x xs)) H
theorem op_in_seq : OpR X (compareOp .In) (rIn X.K false) := by
  intro pins s σ H x y v u Q I rx ry h
  obtain ⟨p, xs, rfl, hq, fx, fs, q⟩ := h
  cases ry
  rcases hq with hq | hq
  · obtain ⟨its, r, pl, hz⟩ := I.list hq
    refine SeqAt.in_listAt (eqU x) pl.isList (fun w hw => mem_eqAt rx fx r fs w (by simpa using hw)) ⟨.bl _, H, I, rfl, ?_⟩
    rw [show its.toArray.any (eqU x) = its.any (eqU x) by simp, any_eqU r fs]
    exact q
  · obtain ⟨its, r, pl, hz⟩ := I.tuple hq
    refine SeqAt.in_tupleAt (eqU x) pl (fun w hw => mem_eqAt rx fx r fs w (by simpa using hw)) ⟨.bl _, H, I, rfl, ?_⟩
    rw [show its.toArray.any (eqU x) = its.any (eqU x) by simp, any_eqU r fs]
    exact q
theorem op_notIn_seq : OpR X (compareOp .NotIn) (rIn X.K true) := by
  intro pins s σ H x y v u Q I rx ry h
  obtain ⟨p, xs, rfl, hq, fx, fs, q⟩ := h
  cases ry
  rcases hq with hq | hq
  · obtain ⟨its, r, pl, hz⟩ := I.list hq
    refine SeqAt.notIn_listAt (eqU x) pl.isList (fun w hw => mem_eqAt rx fx r fs w (by simpa using hw)) ⟨.bl _, H, I, rfl, ?_⟩
    rw [show its.toArray.any (eqU x) = its.any (eqU x) by simp, any_eqU r fs]
    exact q
  · obtain ⟨its, r, pl, hz⟩ := I.tuple hq
    refine SeqAt.notIn_tupleAt (eqU x) pl (fun w hw => mem_eqAt rx fx r fs w (by simpa using hw)) ⟨.bl _, H, I, rfl, ?_⟩
    rw [show its.toArray.any (eqU x) = its.any (eqU x) by simp, any_eqU r fs]
    exact q
theorem call_len_seq : CallR X (.builtin "len") (fun xs H Q => ∃ p ys, xs = [.ref p] ∧ (SqL X.K H p ys ∨ SqT X.K H p ys) ∧ Q (.int ys.length) H) := by
  intro pins s σ H xs us Q I r h
  obtain ⟨p, ys, rfl, hq, q⟩ := h
  obtain ⟨u, rfl, rx⟩ := vals1 r
  cases rx
  have hn := line63
  rcases hq with hq | hq
  · obtain ⟨its, r', pl, hz⟩ := I.list hq
    have hlen := r'.length
    exact Calls.call_len_list pl.isList (by simp only [List.size_toArray] <;> omega) ⟨.int ys.length, H, I.tok _, ⟨s.toks + 1, by rw [List.size_toArray, hlen]⟩, q⟩
  · obtain ⟨its, r', pl, hz⟩ := I.tuple hq
    have hlen := r'.length
    exact len_tuple pl (by simp only [List.size_toArray] <;> omega) ⟨.int ys.length, H, I.tok _, ⟨s.toks + 1, by rw [List.size_toArray, hlen]⟩, q⟩
theorem call_list_of : CallR X (.type "list") (fun xs H Q => ∃ p ys, xs = [.ref p] ∧ (SqL X.K H p ys ∨ SqT X.K H p ys) ∧ ∀ l, H l = none → Q (.ref l) (upd H l (.lst ys))) := by
  intro pins s σ H xs us Q I r h
  obtain ⟨p, ys, rfl, hq, q⟩ := h
  obtain ⟨u, rfl, rx⟩ := vals1 r
  cases rx
  have fin : ∀ (its : List Value), Vals ys its → ys.length ≤ sizeLine → ∀ (h' : Heap) (c' : Nat), (∀ b o', s.heap.get? b = some o' → h'.get? b = some o') →
      h'.get? s.heap.objs.size = some { cls := .type "list", dict := none, data := .seq its.toArray c', slots := #[] } → EP X pins σ Q (.ref s.heap.objs.size) { s with heap := h' } := fun its r' hz h' c' kp e =>
    ⟨.ref s.heap.objs.size, _, I.laid (t' := s.toks) kp (Nat.le_refl _) (show ObjOk X.prog X.w _ h' _ (.lst ys) from ⟨hz, its, c', r', e⟩), rfl, q _ (I.hok.fresh (Nat.le_refl _))⟩
  rcases hq with hq | hq
  · obtain ⟨its, r', pl, hz⟩ := I.list hq
    have hlen := r'.length
    obtain ⟨o, ho, hc, n, hd⟩ := pl.isList
    exact call_list_seq p (.inl rfl) ho hc hd (fun h' c' kp e => fin its r' hz h' c' kp e) (by simp only [List.size_toArray] <;> omega)
  · obtain ⟨its, r', pl, hz⟩ := I.tuple hq
    have hlen := r'.length
    obtain ⟨o, ho, hc, n, hd⟩ := pl
    exact call_list_seq p (.inr rfl) ho hc hd (fun h' c' kp e => fin its r' hz h' c' kp e) (by simp only [List.size_toArray] <;> omega)
theorem call_tuple_of : CallR X (.type "tuple") (fun xs H Q => ∃ p ys, xs = [.ref p] ∧ ((SqL X.K H p ys ∧ ∀ l, H l = none → Q (.ref l) (upd H l (.tup ys))) ∨ (SqT X.K H p ys ∧ Q (.ref p) H))) := by
  intro pins s σ H xs us Q I r h
  obtain ⟨p, ys, rfl, h⟩ := h
  obtain ⟨u, rfl, rx⟩ := vals1 r
  cases rx
  rcases h with ⟨hq, q⟩ | ⟨hq, q⟩
  · obtain ⟨its, r', pl, hz⟩ := I.list hq
    have hlen := r'.length
    refine call_tuple_list pl.isList (fun h' kp => ?_) (by simp only [List.size_toArray] <;> omega)
    have I1 : Inv X pins σ H { s with heap := h' } := I.kept (t' := s.toks) kp
    have I2 : Inv X pins σ (upd H h'.objs.size (.tup ys)) { s with heap := h'.push { cls := .type "tuple", data := .seq its.toArray } } :=
      I1.laid (t' := s.toks) (fun b o e => Heap.get?_push_of_some _ e) (Nat.le_refl _) (show ObjOk X.prog X.w _ _ _ (.tup ys) from ⟨hz, its, r', IsTup.new _ _⟩)
    exact ⟨.ref h'.objs.size, _, I2, rfl, q _ (I1.hok.fresh (Nat.le_refl _))⟩
  · obtain ⟨its, r', pl, hz⟩ := I.tuple hq
    exact call_tuple_same pl ⟨.ref p, H, I, rfl, q⟩
noncomputable def tyV (K : PySem.W.Frag) (T : String) (x : V) (H : Hp) : Prop := match x with
  | .str _ => T = "str"
  | .int _ => T = "int"
  | .ref p => (T = "list" ∧ ∃ xs, SqL K H p xs) ∨ (T = "tuple" ∧ ∃ o, K.lookup p = some o ∧ o.cls = .type "tuple" ∧ o.dict = none) ∨
      (T = "dict" ∧ ((∃ kvs, H p = some (.dK kvs)) ∨ ∃ kvs, H p = some (.dT kvs))) ∨ (T = "set" ∧ ∃ S n, H p = some (.set S n))
  | _ => False
theorem tyV_is {pins : List (Addr × Obj)} {σ : St} {H : Hp} {s : Shared} {T : String} {x : V} {v : Value} (I : Inv X pins σ H s) (r : RelV x v) (ty : tyV X.K T x H) :
    s.TypeIs v T ∧ ∀ a, v = .ref a → ∃ ob, s.heap.get? a = some ob ∧ ob.dict = none := by
  cases x with
  | str z =>
    obtain ⟨t, rfl⟩ := r
    cases (show T = "str" from ty)
    exact ⟨typeIs_str s z t, fun _ e => nomatch e⟩
  | int i =>
    obtain ⟨t, rfl⟩ := r
    cases (show T = "int" from ty)
    exact ⟨typeIs_int s i t, fun _ e => nomatch e⟩
  | ref p =>
    cases r
    rcases ty with ⟨rfl, xs, hq⟩ | ⟨rfl, o, hk, hc, hd⟩ | ⟨rfl, hk⟩ | ⟨rfl, S, n, hk⟩
    · obtain ⟨its, _, pl, _⟩ := I.list hq
      refine ⟨pl.isList.typeIs, fun a e => ?_⟩
      cases e
      obtain ⟨o, n, e, c, hd, _⟩ := pl
      exact ⟨o, e, hd⟩
    · refine ⟨⟨o, I.kIn p o hk, hc⟩, fun a e => ?_⟩
      cases e
      exact ⟨o, I.kIn _ o hk, hd⟩
    · have z : ∃ o, s.heap.get? p = some o ∧ o.ExactDict := by
        rcases hk with ⟨kvs, hk⟩ | ⟨kvs, hk⟩
        · obtain ⟨_, _, _, _, o, _, _, e, ex, _⟩ := I.hok p _ hk
          exact ⟨o, e, ex⟩
        · obtain ⟨_, _, _, _, o, _, _, e, ex, _⟩ := I.hok p _ hk
          exact ⟨o, e, ex⟩
      obtain ⟨o, e, ex⟩ := z
      refine ⟨⟨o, e, ex.1⟩, fun a e2 => ?_⟩
      cases e2
      exact ⟨o, e, ex.2.1⟩
    · obtain ⟨o, _, _, _, e, ex, _⟩ := I.hok p _ hk
      refine ⟨⟨o, e, ex.1⟩, fun a e2 => ?_⟩
      cases e2
      exact ⟨o, e, ex.2.1⟩
  | _ => exact False.elim ty
noncomputable def tBM0 (K : PySem.W.Frag) (T : String) (r : V → List V → Hp → VK → Prop) (to : TE) : TE := fun σ H Q => to σ H fun x H1 => tyV K T x H1 ∧ r x [] H1 Q
noncomputable def tBM (K : PySem.W.Frag) (T : String) (r : V → List V → Hp → VK → Prop) (to : TE) (t : TA) : TE := fun σ H Q => to σ H fun x H1 => tyV K T x H1 ∧ t σ H1 fun xs H2 => r x xs H2 Q
variable {o e : Expr} {es : List Expr} {to : TE} {t : TA} {name : Str} {apos cpos : Pos} {T id : String} {r : V → List V → Hp → VK → Prop}
theorem pe_bm0 (pa : PlainAttrs T) (slot : Slot T name id) (hty : typeOf (.builtin id) = pure (.type "method_descriptor")) (hm : MtR X id r) (ho : PE X o to)
    (hbase : attributeBase o name X.env (eval o X.env) = eval o X.env := by rfl) (hline : (apos.endLine == cpos.line) = true := by rfl) : PE X (.Call (.Attribute o name apos) [] [] cpos) (tBM0 X.K T r to) := by
  intro pins s σ H Q I h
  refine wpAny_Call_method0_late hbase hline (thn (ho pins s σ H _ I h) fun v s1 hpat => ?_)
  obtain ⟨x, H1, I1, r1, ty, q1⟩ := hpat
  obtain ⟨h1, h2⟩ := tyV_is I1 r1 ty
  exact ⟨T, id, pa, slot, hty, h1, h2, Calls.callWith_builtin rfl (PySem.evalArgs_none (hm pins s1 σ H1 x [] v [] Q I1 r1 .nil q1))⟩
theorem pe_bm (pa : PlainAttrs T) (slot : Slot T name id) (hty : typeOf (.builtin id) = pure (.type "method_descriptor")) (hm : MtR X id r) (ho : PE X o to) (ha : PA X (e :: es) t)
    (hbase : attributeBase o name X.env (eval o X.env) = eval o X.env := by rfl)
    (hfew : ((backTo cpos (starEach (e :: es) X.env)).all (fun x => !x.1) && (backToKw cpos (keywordEach [] X.env)).all (fun x => x.1.isSome)
      && decide ((e :: es).length + ([] : List Keyword).length + (if ([] : List Keyword).isEmpty then 0 else 1) < 30)) = true := by rfl)
    (hline : (apos.endLine == cpos.line) = true := by rfl) (hs : starEach (e :: es) X.env = (false, eval e X.env) :: starEach es X.env := by rfl) (hplain : (backTo cpos (starEach es X.env)).any (·.1) = false := by rfl) :
    PE X (.Call (.Attribute o name apos) (e :: es) [] cpos) (tBM X.K T r to t) := by
  intro pins s σ H Q I h
  refine wpAny_Call_method_late hbase hfew hline rfl (thn (ho pins s σ H _ I h) fun v s1 hpat => ?_)
  obtain ⟨x, H1, I1, r1, ty, q1⟩ := hpat
  obtain ⟨h1, h2⟩ := tyV_is I1 r1 ty
  refine ⟨T, id, pa, slot, hty, h1, h2, ?_⟩
  have hA := ha cpos pins s1 σ H1 _ I1 q1
  rw [hs] at hA ⊢
  refine Calls.callWith_builtin (by show (false || (backTo cpos (starEach es X.env)).any (·.1)) = false; rw [hplain] <;> rfl) (Calls.evalArgs_plain ?_)
  exact thn hA fun us s2 hpat => by obtain ⟨vs, H2, I2, r2, q2⟩ := hpat; exact hm pins s2 σ H2 x vs v us Q I2 r1 r2 q2
end
end L2
namespace L2
open PySem PySem.Spec PyProof.Rows
noncomputable def MtM (X : Cx) (id : String) (r : V → List V → Hp → VK → Prop) : Prop :=
  ∀ (pins : List (Addr × Obj)) (s : Shared) (σ : St) (H : Hp) (x : V) (xs : List V) (v : Value) (us : List Value) (Q : VK), Inv X pins σ H s → RelV x v → Vals xs us → r x xs H Q →
    wpAny (model X.prog X.w) X.A (call (.builtin id) (v :: us)) (EP X pins σ Q) X.xe s
theorem Vals.one : ∀ {x : V} {us : List Value}, Vals [x] us → ∃ u, us = [u] ∧ RelV x u := by
  intro x us h
  cases h with
  | cons r t => cases t; exact ⟨_, rfl, r⟩
theorem Vals.zero : ∀ {us : List Value}, Vals [] us → us = []
  | _, .nil => rfl
theorem Vals.dropLast {xs : List V} {us : List Value} (h : Vals xs us) : Vals xs.dropLast us.dropLast := by
  induction h with
  | nil => exact .nil
  | cons r t ih =>
    cases t with
    | nil => exact .nil
    | cons q t' => exact .cons r ih
theorem Vals.eraseIdx : ∀ {xs : List V} {us : List Value} (i : Nat), Vals xs us → Vals (xs.eraseIdx i) (us.eraseIdx i)
  | _, _, _, .nil => .nil
  | _, _, 0, .cons _ t => t
  | _, _, i + 1, .cons r t => .cons r (Vals.eraseIdx i t)
theorem erase_last {α : Type} (l : List α) : l.eraseIdx (l.length - 1) = l.dropLast := by
  induction l with
  | nil => rfl
  | cons a r ih =>
    cases r with
    | nil => rfl
    | cons b r =>
      have e : (a :: b :: r).length - 1 = ((b :: r).length - 1) + 1 := by
        have h1 : (a :: b :: r).length = r.length + 2 := rfl
        have h2 : (b :: r).length = r.length + 1 := rfl
        omega
      rw [e, List.eraseIdx_cons_succ, ih]
      all_goals rfl
theorem len_erase {α : Type} : ∀ (l : List α) (i : Nat), (l.eraseIdx i).length ≤ l.length
  | [], _ => Nat.le_refl _
  | _ :: _, 0 => Nat.le_succ _
  | _ :: r, i + 1 => Nat.succ_le_succ (len_erase r i)
section
variable {X : Cx} {pins : List (Addr × Obj)} {σ : St} {H : Hp} {s : Shared} {l b : Addr} {xs ys zs : List V}
theorem Inv.lset {its its' : List Value} {n : Nat} {f : Array Value → Array Value} {t' : Nat} (I : Inv X pins σ H s) (hH : H l = some (.lst xs))
    (e : s.heap.get? l = some { cls := .type "list", data := .seq its.toArray n }) (hf : f its.toArray = its'.toArray) (hv : Vals ys its') (hz : ys.length ≤ sizeLine) :
    Inv X pins σ (upd H l (.lst ys)) { s with heap := s.heap.update l (Obj.mapSeq f), toks := t' } := by
  have q := PySem.IsL.update e f
  rw [hf] at q
  refine I.write (x := l) (e := l) (by rw [hH]; exact trivial) (.inl rfl) (fun b' u hb hu => (Heap.get?_update_other s.heap (Obj.mapSeq f) (Ne.symm hb)).trans hu) ⟨_, q⟩ ?_
  exact ⟨hz, its', _, hv, q⟩
theorem Inv.lstM (I : Inv X pins σ H s) (hH : H l = some (.lst xs)) : xs.length ≤ sizeLine ∧ ∃ (its : List Value) (n : Nat), Vals xs its ∧ xs.length = its.length ∧ s.heap.get? l = some { cls := .type "list", data := .seq its.toArray n } := by
  obtain ⟨z, its, n, r, e⟩ := I.hok l _ hH
  exact ⟨z, its, n, r, r.length, e⟩
end
section
variable {X : Cx}
noncomputable def rAppend : V → List V → Hp → VK → Prop := fun x vs H Q => ∃ l xs y, x = .ref l ∧ vs = [y] ∧ H l = some (.lst xs) ∧ xs.length < sizeLine ∧ Q .non (upd H l (.lst (xs ++ [y])))
theorem mt_append : MtM X "list.append" rAppend := by
  intro pins s σ H x vs v us Q I rx rv h
  obtain ⟨l, xs, y, rfl, rfl, hH, hz, q⟩ := h
  cases rx
  obtain ⟨u, rfl, ru⟩ := rv.one
  obtain ⟨z, its, n, r, hl, e⟩ := I.lstM hH
  refine call_meets F.slot_list_append ⟨_, e, rfl⟩ F.entry_list_append (F.args_list_append_2 _ _) (PySem.list_append l its.toArray n u (by rw [List.size_toArray]; omega)) ⟨e, ?_⟩
  refine ⟨.non, _, I.lset (its' := its ++ [u]) hH e (by simp) (r.append (.cons ru .nil)) ?_, rfl, q⟩
  rw [List.length_append, List.length_singleton]
  omega
noncomputable def rPop : V → List V → Hp → VK → Prop := fun x vs H Q => ∃ l xs y, x = .ref l ∧ vs = [] ∧ H l = some (.lst xs) ∧ xs[xs.length - 1]? = some y ∧ Q y (upd H l (.lst xs.dropLast))
theorem mt_pop : MtM X "list.pop" rPop := by
  intro pins s σ H x vs v us Q I rx rv h
  obtain ⟨l, xs, y, rfl, rfl, hH, hy, q⟩ := h
  cases rx
  have hus := rv.zero
  subst hus
  obtain ⟨z, its, n, r, hl, e⟩ := I.lstM hH
  obtain ⟨u, hu, ru⟩ := r.get hy
  have hy' : its.toArray[its.toArray.size - 1]? = some u := by
    show its.toArray[its.length - 1]? = some u
    rw [← Array.getElem?_toList, ← hl]
    exact hu
  refine call_meets F.slot_list_pop ⟨_, e, rfl⟩ F.entry_list_pop (F.args_list_pop_1 _) (MeetsSeq.list_pop_last l its.toArray n u hy' (by rw [List.size_toArray]; omega)) ⟨e, ?_⟩
  refine ⟨y, _, I.lset (its' := its.dropLast) hH e ?_ r.dropLast ?_, ru, q⟩
  · show its.toArray.eraseIdxIfInBounds (its.toArray.size - 1) = its.dropLast.toArray
    rw [List.size_toArray, List.eraseIdxIfInBounds_toArray, erase_last]
  · rw [List.length_dropLast]
    omega
noncomputable def rPopAt : V → List V → Hp → VK → Prop := fun x vs H Q => ∃ l xs i k y, x = .ref l ∧ vs = [.int i] ∧ H l = some (.lst xs) ∧ -(2 ^ 63) ≤ i ∧ i < 2 ^ 63 ∧ seqIndex? i xs.length = some k ∧ xs[k]? = some y ∧ Q y (upd H l (.lst (xs.eraseIdx k)))
theorem mt_popAt : MtM X "list.pop" rPopAt := by
  intro pins s σ H x vs v us Q I rx rv h
  obtain ⟨l, xs, i, k, y, rfl, rfl, hH, h1, h2, hk, hy, q⟩ := h
  cases rx
  obtain ⟨u, rfl, ru⟩ := rv.one
  obtain ⟨t, rfl⟩ := ru
  obtain ⟨z, its, n, r, hl, e⟩ := I.lstM hH
  obtain ⟨w, hw, rw'⟩ := r.get hy
  refine call_meets F.slot_list_pop ⟨_, e, rfl⟩ F.entry_list_pop (F.args_list_pop_2 _ _)
    (MeetsSeq.list_pop_at l its.toArray n i t k w (fitsIndex_both h1 h2) (by rw [List.size_toArray, ← hl]; exact hk) (by rw [← Array.getElem?_toList]; exact hw) (by rw [List.size_toArray]; omega)) ⟨e, ?_⟩
  refine ⟨y, _, I.lset (its' := its.eraseIdx k) hH e ?_ (r.eraseIdx k) ?_, rw', q⟩
  · show its.toArray.eraseIdxIfInBounds k = (its.eraseIdx k).toArray
    rw [List.eraseIdxIfInBounds_toArray]
  · have := len_erase xs k
    omega
end
section
variable {prog : Program} {w : World} {A : Around} {E : Value → Shared → Prop} {s : Shared}
set_option maxRecDepth 100000 in
end
section
variable {X : Cx}
end
end L2
namespace Att
open PySem PySem.W PySem.Calls PyProof.Rows
theorem ints_of_wellAll {P : Params} {h : Heap} : ∀ (ns : List Int) (vs : List Value), WellAll P h vs (ns.map WData.int) → IntsAre vs ns := by
  intro ns
  induction ns with
  | nil =>
    intro vs w
    rw [List.map_nil] at w
    cases w
    exact .nil
  | cons n ns ih =>
    intro vs w
    rw [List.map_cons] at w
    cases w with
    | cons a b =>
      cases a
      exact .cons _ _ (ih _ b)
theorem script_of {l : OpenLaw} {n : Nat} (hn : l.most = some n) {P : Params} {h : Heap} {args : List WData} {vals : List Value}
    (hpre : l.row.toRowW.claim.pre args = true) (hwl : WellAll P h vals args) :
    ∃ a vs ns, vals = [Value.ref a] ∧ args = [WData.list (ns.map WData.int)] ∧ h.get? a = some { cls := .type "list", data := .seq vs.toArray } ∧ IntsAre vs ns ∧ ns.length ≤ n := by
  have hsh : WShape.hasAll [] args [.list .int] = true := (pre_splitW hpre).1
  have hc : l.pre.holds [] { args := args } = true := (pre_splitW hpre).2
  obtain ⟨d, r, rfl, h1, h2⟩ := hasAllW_cons hsh
  obtain rfl := hasAllW_nil h2
  obtain ⟨xs, rfl, h3⟩ := hasW_list h1
  obtain ⟨ns, rfl⟩ := items_int h3
  have hlen : ns.length ≤ n := by
    unfold OpenLaw.pre at hc
    have h4 : (WTm.not (.lt (.lit (.int (n : Int))) (.len (.arg 0)))).holds [] { args := [.list (ns.map .int)] } = true := by
      have h4 := (holds_andW hc).1
      rw [hn] at h4
      exact h4
    have h5 := condW_of h4 (w_not (w_lt w_lit (w_len_list (w_arg rfl))))
    rw [List.length_map] at h5
    refine Nat.le_of_not_lt fun q => ?_
    have q' : (n : Int) < ((ns.length : Nat) : Int) := by omega
    first
      | (rw [decide_eq_true q'] at h5; exact absurd h5 (by decide))
      | (simp at h5; omega)
  cases hwl with
  | cons w1 w2 =>
    cases w2
    cases w1 with
    | list ho hall => exact ⟨_, _, ns, rfl, rfl, ho, ints_of_wellAll ns _ hall, hlen⟩
theorem post_true (l : OpenLaw) (args : List WData) : l.row.toRowW.claim.post args (.bool true) args = true :=
  postW_of (r := l.row.toRowW) (X := (true == true))
    (show WShape.has [] (.bool true) .bool = true by first | rfl | decide | simp [WShape.has, WShape.arms, WShape.armsAll])
    (show (WTm.eq .res (.lit (.bool true))).value [] { args := args, res := some (.bool true), after := args } = some (.bool (true == true)) from w_eq_bool (w_res rfl) w_lit) rfl
theorem attach_call {l : OpenLaw} {n : Nat} {q : Program} {loose : List Str} {XP : (Str → Option Value) → Heap → Prop} {YP : World → Heap → Prop} {d : DefRec}
    (hn : l.most = some n) (hdf : d.params.defaults = [])
    (call : ∀ (w : World) (s₀ s₁ : Shared) (mg mb : Str → Option Value) (fa : Addr) (o : Obj) (pm cd doc : Value) (a : Addr) (vs : List Value) (ns : List Int),
      Ground q loose [] XP w s₀ mg mb s₁.heap → YP w s₁.heap →
      s₁.heap.get? fa = some o → o.data = .func (docDef d.name d.params d.body d.scope pm cd doc) → s₁.heap.CodeRec cd d.name → mg d.name = some (.ref fa) →
      s₁.heap.get? a = some { cls := .type "list", data := .seq vs.toArray } → IntsAre vs ns → ns.length ≤ n → s₁.gens = #[] →
      codeAny (model l.prog w) callerA (.call (.ref fa) ⟨[.ref a], []⟩) (fun r s' => r = .ok (.ret (.bool true)) ∧ OldK s₁.heap s'.heap ∧ s'.os = s₁.os ∧ AllBare s'.gens) s₁) :
    WalkO q loose XP YP l.row.toRowW d [] (fun f vs => PySem.call f vs) := by
  intro w s₀ s₁ mg mb G Y fa o pm cd doc dV kV ho hd hcd hD hmg hg args vals as hpre hlay hrd hwl hlo
  obtain rfl : dV = .none := Dflts.none hD hdf
  obtain rfl : kV = .none := Dflts.noKw hD
  obtain ⟨a, vs, ns, rfl, rfl, hobj, hints, hlen⟩ := script_of hn hpre hwl
  refine enter_call (codeAny_mono (call w s₀ s₁ mg mb fa o pm cd doc a vs ns G Y ho (fd_plain hd) hcd hmg hobj hints hlen hg) fun r s' hq => ?_)
  obtain ⟨rfl, h2, h3, h4⟩ := hq
  exact ⟨.inl ⟨.bool true, .bool true, [], rfl, fun _ => rfl, .bool true, post_true l _, fun _ => ⟨List.Pairwise.nil, fun _ hm => (nomatch hm)⟩⟩, h2, h3, h4⟩
section
variable {prog : Program} {w : World} {A : Around} {E : Value → Shared → Prop} {s : Shared} {K : Frag}
end
end Att
namespace L2
open PySem PySem.Spec PyProof.Rows
theorem vals_ints : ∀ {vs : List Value} {ns : List Int}, IntsAre vs ns → Vals (ns.map V.int) vs
  | _, _, .nil => .nil
  | _, _, .cons n t h => .cons ⟨t, rfl⟩ (vals_ints h)
noncomputable def Only (H : Hp) : Prop := ∀ b, H b = none ∨ ∃ o xs, H b = some (.frz o (.lst xs))
theorem law_call {P : Program} {w : World} {K : PySem.W.Frag} {mg mb : Str → Option Value} {CX : CXT} {k : Nat} {fa a : Addr} {fd : FuncData} {x : Str} {sp : Sp} {s₁ : Shared} {vs : List Value} {ns : List Int}
    (KX : K.In s₁.heap) (hns : s₁.heap.Ns mainGlobals mg) (hb : s₁.heap.Ns builtinsNs mb) (hbb : ∀ x : Str, x ≠ "__name__" → mb x = bootBuiltins x) (hlim : s₁.heap.NoLimit) (hg : s₁.gens = #[])
    (ha : s₁.heap.get? a = some { cls := .type "list", data := .seq vs.toArray }) (hi : IntsAre vs ns) (hl : ns.length ≤ sizeLine) (hr : Room k callerA)
    (F : ∀ base : Heap, K.In base → base.Ns mainGlobals mg → FnOk P w K mg base CX k fa fd [x] sp) (hbind : ∀ (s : Shared) (u : Value), BindsTo s fd ⟨[u], []⟩ [(x, u)])
    (hsp : ∀ H : Hp, Only H → SqL K H a (ns.map V.int) → sp [.ref a] H (fun v _ => v = .bl true) fun _ _ _ => False)
    (hCX : ∀ H e s', CX [] H s₁ (fun _ _ _ => False) e s' → False) :
    codeAny (model P w) callerA (.call (.ref fa) ⟨[.ref a], []⟩) (fun r s' => r = .ok (.ret (.bool true)) ∧ OldK s₁.heap s'.heap ∧ s'.os = s₁.os ∧ AllBare s'.gens) s₁ := by
  have rv := vals_ints hi
  have lenV := hi.length
  have core : ∀ H : Hp, Only H → SqL K H a (ns.map V.int) → HOk P w H s₁.heap → (∀ b, H b ≠ none → b = a) → (H a ≠ none → K.lookup a = none) →
      codeAny (model P w) callerA (.call (.ref fa) ⟨[.ref a], []⟩) (fun r s' => r = .ok (.ret (.bool true)) ∧ OldK s₁.heap s'.heap ∧ s'.os = s₁.os ∧ AllBare s'.gens) s₁ := by
    intro H hO hS hok hA hK
    have base_of : ∀ {b : Addr} {o : Obj}, s₁.heap.get? b = some o → H b = none → (hidT s₁.heap H).get? b = some o := fun e n => hidT_get e n
    have noA : ∀ {b : Addr} {o : Obj} {es : Array DictEntry} {ep : Nat}, s₁.heap.get? b = some o → o.data = .dict es ep → H b = none := fun {b o es ep} e d => by
      cases q : H b with
      | none => rfl
      | some u =>
        have e' : b = a := hA b (by rw [q]; simp)
        subst e'
        rw [ha] at e; cases e
        have d' : Data.seq vs.toArray _ = Data.dict es ep := d
        cases d'
    have nsK : ∀ {b : Addr} {m : Str → Option Value}, s₁.heap.Ns b m → (hidT s₁.heap H).Ns b m := fun {b m} ⟨o, es, ep, e, d, r⟩ => ⟨o, es, ep, base_of e (noA e d), d, r⟩
    have hKb : K.In (hidT s₁.heap H) := fun b o e => base_of (KX b o e) (by
      cases q : H b with
      | none => rfl
      | some u =>
        have e' : b = a := hA b (by rw [q]; simp)
        subst e'
        rw [hK (by rw [q]; simp)] at e; cases e)
    have hM : Mod K mg (hidT s₁.heap H) := ⟨hKb, nsK hns, ⟨mb, nsK hb, hbb⟩, let ⟨mc, h1, h2⟩ := hlim; ⟨mc, nsK h1, h2⟩⟩
    have e0 : Env0 P w K mg (hidT s₁.heap H) callerA [] s₁ H := ⟨rfl, hM, fun b o e => of_hidT e, Nat.le_of_eq (hidT_size _ _), trivial, fun b hb => absurd (show b ∈ ([] : List Addr) from hb) (by simp), hok, .of_eq hg⟩
    refine codeAny_mono ((F _ hKb (nsK hns)).run callerA [] s₁ H ⟨[.ref a], []⟩ [.ref a] [.ref a] _ _ hr e0 (hbind s₁ (.ref a)) (.cons rfl .nil) (hsp H hO hS)) fun r s' h => ?_
    cases r with
    | error e => exact (hCX H e s' h).elim
    | ok fl =>
      cases fl with
      | next => exact False.elim h
      | brk => exact False.elim h
      | cont => exact False.elim h
      | ret u =>
        obtain ⟨v, H', os, bare, un, hok', r', q⟩ := h
        have q' : v = .bl true := q
        subst q'
        obtain rfl : u = Value.bool true := r'
        refine ⟨rfl, OldK.of_keep fun b o e => ?_, os, bare⟩
        cases q : H b with
        | none => exact un.keep b o e q (by intro z; exact absurd (show b ∈ ([] : List Addr) from z) (by simp)) (by simp)
        | some u =>
          rcases hO b with z | ⟨ob, xs, z⟩
          · rw [q] at z; cases z
          · have z2 := un.frzs b ob _ z
            obtain ⟨e1, _⟩ := hok b _ z
            obtain ⟨e2, _⟩ := hok' b _ z2
            rw [e] at e1; cases e1
            exact e2
  cases hk : K.lookup a with
  | some o =>
    have e := KX a o hk
    rw [ha] at e
    cases e
    refine core (fun _ => none) (fun _ => .inl rfl) (.inr ⟨_, vs.toArray, _, hk, rfl, rfl, rfl, by rw [List.size_toArray, lenV]; exact hl, by simpa using rv⟩) (fun b u z => by have z' : (none : Option HO) = some u := z; cases z') (fun b z => absurd rfl z) fun z => absurd rfl z
  | none =>
    refine core (fun b => if b = a then some (.frz { cls := .type "list", data := .seq vs.toArray } (.lst (ns.map V.int))) else none) (fun b => ?_) (.inl (.inr ⟨{ cls := .type "list", data := .seq vs.toArray }, if_pos rfl⟩)) (fun b u z => ?_) (fun b z => ?_) fun _ => hk
    · by_cases hb : b = a
      · exact .inr ⟨_, _, if_pos hb⟩
      · exact .inl (if_neg hb)
    · by_cases hb : b = a
      · have z' := (if_pos hb).symm.trans z
        cases z'
        subst hb
        exact ⟨ha, by rw [List.length_map]; exact hl, vs, _, rv, ha⟩
      · have z' := (if_neg hb).symm.trans z
        cases z'
    · by_cases hb : b = a
      · exact hb
      · exact absurd (if_neg hb) z
end L2
namespace L2
open PySem PySem.Spec PyProof.Rows
noncomputable abbrev KOf {K : PySem.W.Frag} {h : Heap} (_ : K.In h) : PySem.W.Frag := K
theorem walk_of {l : PySem.W.OpenLaw} {n k : Nat} {q : Program} {loose : List Str} {XP : (Str → Option Value) → Heap → Prop} {YP : World → Heap → Prop} {d : DefRec} {K : Params → PySem.W.Frag} {CX : World → CXT} {sp : World → Sp} {x : Str}
    (hn : l.most = some n) (hn2 : n ≤ sizeLine) (hdf : d.params.defaults = []) (hr : Room k callerA)
    (hY : ∀ (w : World) (h : Heap), YP w h → (K w.params).In h)
    (F : ∀ (w : World) (mg : Str → Option Value) (fa : Addr) (h : Heap), (K w.params).In h → h.Ns mainGlobals mg → mg d.name = some (.ref fa) →
      ∃ fd : FuncData, (∀ (s : Shared) (u : Value), BindsTo s fd ⟨[u], []⟩ [(x, u)]) ∧
        ∀ base : Heap, (K w.params).In base → base.Ns mainGlobals mg → FnOk l.prog w (K w.params) mg base (CX w) k fa fd [x] (sp w))
    (hsp : ∀ (w : World) (H : Hp) (a : Addr) (ns : List Int), ns.length ≤ n → Only H → SqL (K w.params) H a (ns.map V.int) → sp w [.ref a] H (fun v _ => v = .bl true) fun _ _ _ => False)
    (hCX : ∀ (w : World) (H : Hp) (s : Shared) (e : Value) (s' : Shared), CX w [] H s (fun _ _ _ => False) e s' → False) :
    PySem.W.WalkO q loose XP YP l.row.toRowW d [] (fun f vs => PySem.call f vs) := by
  refine Att.attach_call hn hdf fun w s₀ s₁ mg mb fa o pm cd doc a vs ns G Y ho hd hcd hmg hobj hints hlen hg => ?_
  have KX := hY w _ Y
  obtain ⟨fd, hb, hF⟩ := F w mg fa _ KX G.T.g hmg
  exact law_call KX G.T.g G.T.b G.T.builtins G.T.nolimit hg hobj hints (Nat.le_trans hlen hn2) hr hF hb (fun H hO hS => hsp w H a ns hlen hO hS) fun H e s' => hCX w H s₁ e s'
end L2
namespace L2
open PySem PySem.Spec PyProof.Rows
noncomputable def inClass (s : Stmt) (j : Nat) : Stmt := match s with
  | .ClassDef _ _ _ body _ _ _ _ _ _ _ => body.getD j (.Pass ⟨0, 0, 0, 0⟩)
  | _ => .Pass ⟨0, 0, 0, 0⟩
noncomputable def defArgs (s : Stmt) : Arguments := match s with
  | .FunctionDef _ a _ _ _ _ _ _ _ _ => a
  | _ => { posonlyargs := [], args := [], vararg := none, kwonlyargs := [], kw_defaults := [], kwarg := none, defaults := [] }
noncomputable def defBody (s : Stmt) : List Stmt := match s with
  | .FunctionDef _ _ b _ _ _ _ _ _ _ => b
  | _ => []
noncomputable def defScope (s : Stmt) : Scope := match s with
  | .FunctionDef _ _ _ _ _ _ sc _ _ _ => sc
  | _ => { kind := .function, names := [], isGenerator := false, isCoroutine := false }
noncomputable abbrev CX0 : CXT := fun _ _ _ _ _ _ => False
noncomputable abbrev E0 : XK := fun _ _ _ => False
theorem pass0 {X : Cx} : Passes CX0 X E0 := fun _ _ _ _ _ _ _ h => h.elim
set_option genInjectivity false in
structure Fun (K : PySem.W.Frag) (x qual : Str) (st : Stmt) (f : Addr) (fd : FuncData) : Prop where
  ex : ∃ (oc : Value) (od : Option Addr) (kV doc pm : Value) (an : Option Addr) (cdv ct : Value) (osl : Array (Option Value)),
    fd = PySem.W.fnOf x qual (defArgs st) (defBody st) (defScope st) .none kV doc pm an cdv ct ∧ K.lookup f = some ⟨oc, od, .func fd, osl⟩ ∧ PySem.W.codeIn K cdv qual = true
  kp : PySem.W.keepIn K (.ref f) = true
section
variable {P : Program} {w : World} {K : PySem.W.Frag} {mg : Str → Option Value} {base : Heap}
theorem Fun.ok {x qual : Str} {st : Stmt} {f : Addr} {fd : FuncData} {N ps : List Str} {k : Nat} {sp : Sp} (F : Fun K x qual st f fd) (S : FnScope N ps (defScope st)) (len : ∀ vs H Q E, sp vs H Q E → vs.length = ps.length)
    (hbody : ∀ (cdv : Value) (A : Around) (outer : List Env) (s : Shared) (H : Hp) (vs : List V) (Q : VK) (E : XK), Room k (A.deeper (envOfC qual (defScope st) s.heap.objs.size f cdv)) → sp vs H Q E →
      ∃ t, PSs (cxOf CX0 P w K mg base N qual (defScope st) f cdv A outer s H E).nox (defBody st) t ∧ t { nx := fun _ H' => Q .non H', rt := Q } (start N vs) H) : FnOk P w K mg base CX0 (k + 1) f fd ps sp := by
  obtain ⟨oc, od, kV, doc, pm, an, cdv, ct, osl, rfl, lk, hcd⟩ := F.ex
  refine fn_of lk hcd S len fun A outer s H vs Q E hr hsp => ?_
  obtain ⟨t, h, q⟩ := hbody cdv A outer s H vs Q E hr hsp
  exact ⟨t, h.nox, q⟩
theorem Fun.binds {x qual : Str} {st : Stmt} {f : Addr} {fd : FuncData} {ps : List Str} (F : Fun K x qual st f fd)
    (h : ∀ (kV doc pm : Value) (an : Option Addr) (cdv ct : Value) (us : List Value), us.length = ps.length → bindArgs (PySem.W.fnOf x qual (defArgs st) (defBody st) (defScope st) .none kV doc pm an cdv ct) ⟨us, []⟩ = pure (ps.zip us)) : Binds K fd ps [] := by
  obtain ⟨oc, od, kV, doc, pm, an, cdv, ct, osl, rfl, lk, hcd⟩ := F.ex
  exact .all (h kV doc pm an cdv ct)
theorem fun_mk {x qual : Str} {st : Stmt} {f : Addr} {oc : Value} {od an : Option Addr} {osl : Array (Option Value)} {kV doc pm cdv ct : Value} (l : K.lookup f = some ⟨oc, od, .func (PySem.W.fnOf x qual (defArgs st) (defBody st) (defScope st) .none kV doc pm an cdv ct), osl⟩)
    (c : PySem.W.codeIn K cdv qual = true) (k : PySem.W.keepIn K (.ref f) = true) : Fun K x qual st f (PySem.W.fnOf x qual (defArgs st) (defBody st) (defScope st) .none kV doc pm an cdv ct) := ⟨⟨oc, od, kV, doc, pm, an, cdv, ct, osl, rfl, l, c⟩, k⟩
end
theorem hu_of {A : Around} {k : Nat} (hr : Room k A) : A.units + 1 < cLine := Nat.lt_of_le_of_lt (Nat.add_le_add_left (by decide : 1 ≤ 64) _) hr.units
theorem small1000 {n : Nat} (h : n ≤ 1000) : n < sizeLine := Nat.lt_of_le_of_lt h (by decide)
section
variable {X : Cx}
theorem pv (i : Nat) {x : Str} {pos : Pos} (hN : X.N[i]? = some x := by rfl) (hv : Vis X.env.scope x := by first | exact Or.inl rfl | exact Or.inr (Or.inl rfl) | exact Or.inr (Or.inr rfl)) (hd : (x == ("__debug__" : Str)) = false := by decide)
    (hcd : (x == ("__classdict__" : Str)) = false := by decide) : PE X (.Name x pos) (tVar i) := pe_var hN hv hd hcd
end
theorem iteF {A B : Prop} (h : B) : if false = true then A else B := by
  rw [if_neg Bool.false_ne_true]
  exact h
theorem iteT {A B : Prop} (h : A) : if true = true then A else B := by
  rw [if_pos rfl]
  exact h
theorem ite2 {c A B : Prop} [Decidable c] (h1 : c → A) (h2 : ¬ c → B) : if c then A else B := by
  by_cases h : c
  · rw [if_pos h]
    exact h1 h
  · rw [if_neg h]
    exact h2 h
theorem iteNS {c A B : Prop} [Decidable c] (hc : c) (h : B) : if (!decide c) = true then A else B := by
  rw [decide_eq_true hc]
  exact iteF h
noncomputable def Same (H H' : Hp) : Prop := ∀ b o, H b = some o → H' b = some o
theorem Same.refl (H : Hp) : Same H H := fun _ _ h => h
theorem Same.trans {H H1 H2 : Hp} (a : Same H H1) (b : Same H1 H2) : Same H H2 := fun c o h => b c o (a c o h)
theorem Same.free {H H' : Hp} (e : Same H H') {l : Addr} (h : H' l = Option.none) : H l = Option.none := by
  cases q : H l with
  | none => rfl
  | some o =>
    rw [e l o q] at h
    cases h
theorem Same.seq {K : PySem.W.Frag} {H H' : Hp} {a : Addr} {xs : List V} (e : Same H H') (h : SqL K H a xs) : SqL K H' a xs := by
  rcases h with (h | ⟨o, h⟩) | h
  · exact .inl (.inl (e _ _ h))
  · exact .inl (.inr ⟨o, e _ _ h⟩)
  · exact .inr h
end L2
set_option Elab.async false
set_option linter.all false
set_option maxRecDepth 100000
set_option maxHeartbeats 4000000
namespace L2
open PySem PySem.Spec PyProof.Rows
section
variable {X : Cx} {pins : List (Addr × Obj)} {σ : List (Option V)} {H : Hp} {s : Shared} {h' : Heap}
theorem Inv.turnedL {t' : Nat} {ch : List Addr} (I : Inv X pins σ H s) (k : ∀ b o, b ∉ ch → s.heap.get? b = some o → h'.get? b = some o) (hf : ∀ b ∈ ch, FpOk X pins H b) :
    Inv X pins σ H { s with heap := h', toks := t' } := by
  have nit : ∀ b u, H b = some u → b ∉ ch := fun b u e z => by rw [(hf b z).1] at e; cases e
  refine I.step (g' := s.gens) (d' := s.drawn) (ch := ch) (fun b hb => ?_) (fun b o _ _ hc e _ => k b o hc e) (fun b o _ _ hc e _ => ⟨o.slots, k b o hc e⟩) (fun _ _ _ _ n => n)
    (fun b o hc e => ⟨o, k b o hc e⟩) (fun _ _ e => e) (fun _ _ _ e => e) (fun b ps e => ⟨#[], by rw [e]; simp⟩) (fun m hm => ?_) (fun b u e => ?_) I.bare
  · obtain ⟨_, h1, _, h2, h3, h4⟩ := hf b hb
    exact ⟨h2, h1, h3, h4⟩
  · obtain ⟨o, es, ep, ho, r⟩ := hm
    exact ⟨o, es, ep, k _ o (fun z => (hf _ z).2.1 rfl) ho, r⟩
  · refine (I.hok b u e).stay (fun c v hc q => k c v ?_ q) (fun _ q => q) fun _ _ q => q
    rcases hc with z | z
    · rw [z]; exact nit b u e
    · exact nit c _ z
theorem Inv.track {T : Addr} {o : HO} (I : Inv X pins σ H s) (hf : FpOk X pins H T) (new : ObjOk X.prog X.w (upd H T o) s.heap T o) : Inv X pins σ (upd H T o) s := by
  obtain ⟨h0, h1, h5, h2, h3, h4⟩ := hf
  have nT : ∀ b u, H b = some u → b ≠ T := fun b u e z => by rw [z, h0] at e; cases e
  refine I.step (h' := s.heap) (g' := s.gens) (d' := s.drawn) (t' := s.toks) (ch := [T]) (fun b hb => ?_) (fun b o _ _ hc e _ => e) (fun b o _ _ hc e _ => ⟨o.slots, e⟩)
    (fun b o hc _ n => by rw [upd_ne (fun z => hc (by simp [z]))]; exact n)
    (fun b o hc e => ⟨o, e⟩) (fun b xs e => by rw [upd_ne (nT _ _ e)]; exact e) (fun b ob u e => by rw [upd_ne (nT _ _ e)]; exact e) (fun b ps e => ⟨#[], by rw [upd_ne (nT _ _ e), e]; simp⟩) (fun m hm => hm) (fun b u e => ?_) I.bare
  · have e : b = T := by simpa using hb
    subst e
    exact ⟨h2, h1, h3, h4⟩
  · by_cases hb : b = T
    · subst hb; rw [upd_same] at e; cases e; exact new
    · rw [upd_ne hb] at e
      exact (I.hok b u e).stay (fun c v _ q => q) (fun c q => by rw [upd_ne (nT _ _ q)]; exact q) fun c xs q => by rw [upd_ne (nT _ _ q)]; exact q
end
section
variable {X : Cx}
theorem call_isinst : CallR X (.builtin "isinstance") (fun xs H Q => ∃ x t T b, xs = [x, .ty T] ∧ TyOf X.K H x t ∧ PySem.W.kitOne X.K t (.type T) = some b ∧ Q (.bl b) H) := by
  intro pins s σ H xs us Q I r h
  obtain ⟨x, t, T, b, rfl, ty, e, q⟩ := h
  obtain ⟨u, w', rfl, rx, ry⟩ := vals2 r
  cases (show w' = Value.type T from ry)
  exact isinst_ok I rx ty e fun tk => ⟨.bl b, H, I.tok _, rfl, q⟩
noncomputable def rCatA (K : PySem.W.Frag) : R2 := fun x y H Q => ∃ a b xs ys, x = .ref a ∧ y = .ref b ∧ SqT K H a xs ∧ SqT K H b ys ∧ xs.length + ys.length ≤ sizeLine ∧
  (xs = [] → Q (.ref b) H) ∧ (xs ≠ [] → ys = [] → Q (.ref a) H) ∧ (xs ≠ [] → ys ≠ [] → ∀ p, H p = none → Q (.ref p) (upd H p (.tup (xs ++ ys))))
theorem op_catA : OpR X (binaryOp .Add) (rCatA X.K) := by
  intro pins s σ H x y v u Q I rx ry h
  obtain ⟨a, b, xs, ys, rfl, rfl, ha, hb, hz, q0, q1, q2⟩ := h
  cases rx
  cases ry
  by_cases hx : xs = []
  · obtain ⟨its, r1, p1, _⟩ := I.tuple ha
    obtain ⟨its2, r2, p2, _⟩ := I.tuple hb
    obtain ⟨⟨cls, dd, data, sl⟩, ho, hc, n, hd⟩ := id p1
    obtain ⟨⟨cls2, dd2, data2, sl2⟩, ho2, hc2, n2, hd2⟩ := id p2
    simp only at hc hd hc2 hd2
    subst hc hd hc2 hd2
    have hv : its = [] := r1.nil_iff.mpr hx
    exact concat_meets ⟨_, ho, rfl⟩ ⟨_, ho2, rfl⟩ noFill_tuple_add seq_tuple_add PySem.F.slot_tuple_add PySem.F.entry_tuple_add (PySem.F.args_tuple_add_2 _ _)
      (tuple_addW0 a b its.toArray its2.toArray n n2 dd dd2 sl sl2 (by simp [hv])) ⟨ho, ho2, ⟨.ref b, H, I, rfl, q0 hx⟩⟩
  · exact op_catT pins s σ H (.ref a) (.ref b) (.ref a) (.ref b) Q I rfl rfl ⟨a, b, xs, ys, rfl, rfl, ha, hb, hx, hz, q1 hx, q2 hx⟩
theorem eqV_refl : ∀ {x : V}, flatV x = true → eqV x x = true
  | .non, _ => by rfl
  | .bl b, _ => by simp [eqV]
  | .int i, _ => by simp [eqV]
  | .str z, _ => by simp [eqV]
  | .byt _, h => by first | exact absurd (show false = true from h) Bool.false_ne_true | simp [eqV]
  | .flt _, h => by first | exact absurd (show false = true from h) Bool.false_ne_true | simp [eqV]
  | .ref _, h => by first | exact absurd (show false = true from h) Bool.false_ne_true | simp [eqV]
  | .ty _, h => by first | exact absurd (show false = true from h) Bool.false_ne_true | simp [eqV]
theorem same_items {A : Around} {s : Shared} {xs : List V} {its its2 : List Value} (r1 : Vals xs its) (r2 : Vals xs its2) (hf : xs.all flatV = true) :
    ∀ j (h1 : j < its.toArray.size) (h2 : j < its2.toArray.size), SeqAt.EqAt A s its.toArray[j] its2.toArray[j] true := by
  intro j h1 h2
  have hl := r1.length
  have hj : j < xs.length := by simpa [hl] using h1
  have hx : xs[j]? = some xs[j] := by simp [hj]
  obtain ⟨u, hu, ru⟩ := r1.get hx
  obtain ⟨u2, hu2, ru2⟩ := r2.get hx
  have fx : flatV xs[j] = true := List.all_eq_true.mp hf _ (List.getElem_mem hj)
  have e1 : its.toArray[j] = u := by
    have : its[j]? = some its.toArray[j] := by simp at h1; simp [h1]
    rw [hu] at this; exact (Option.some.inj this).symm
  have e2 : its2.toArray[j] = u2 := by
    have : its2[j]? = some its2.toArray[j] := by simp at h2; simp [h2]
    rw [hu2] at this; exact (Option.some.inj this).symm
  rw [e1, e2]
  have := eqAt_V (A := A) (s := s) ru ru2 fx fx
  rw [eqV_refl fx] at this
  exact this
end
end L2
namespace ET
open PySem PySem.Spec
open PySem.AutoSeq1 (wpAny_loadPart')
section
variable {prog : Program} {w : World} {A : Around} {E : Value → Shared → Prop} {s : Shared}
theorem nextOf_tuple_item {it l : Addr} {i : Nat} {items : Array Value} {x : Value} {Q : Value → Shared → Prop} (hit : s.heap.IsTupleIter it l i)
    (hl : s.heap.IsTuple l items) (hx : items[i]? = some x)
    (hQ : ∀ h', h'.IsTupleIter it l (i + 1) → Heap.SameBut it s.heap h' → Q x { s with heap := h' }) :
    wpAny (model prog w) A (Builtin.SmallTypes.nextOf (.ref it)) Q E s := by
  obtain ⟨o, ho, hc, hd⟩ := id hit
  obtain ⟨ol, hol, _, nl, hdl⟩ := hl
  unfold Builtin.SmallTypes.nextOf
  refine wpAny_bind (wpAny_callSpecial?_slot (name := Str.ofString "__next__") hit.typeIs F.slot_tuple_iterator_next
    (wpAny_call_entry F.slot_tuple_iterator_next hit.typeIs F.entry_tuple_iterator_next ?_ (F.args_tuple_iterator_next_1 _)))
  show wpAny _ _ (field (.ref it) 0 >>= _) _ _ s
  refine wpAny_bind (wpAny_field ho hd (x := .ref l) rfl ?_)
  show wpAny _ _ (if (Value.ref l == Value.none) = true then _ else _) _ _ s
  rw [if_neg (show ¬ ((Value.ref l == Value.none) = true) from Bool.false_ne_true)]
  show wpAny _ _ (field (.ref it) 1 >>= _) _ _ s
  refine wpAny_bind (wpAny_field ho hd (x := .int i 0) rfl ?_)
  show wpAny _ _ (seqItems? (.ref l) >>= _) _ _ s
  refine wpAny_bind (wpAny_seqItems hol hdl ?_)
  simp only [Int.toNat_natCast, hx]
  refine wpAny_bind (wpAny_setField ho hd (by simp) (wpAny_pure ⟨x, rfl, wpAny_pure (hQ _ ?_ (Heap.SameBut.update ..))⟩))
  exact ⟨_, Heap.get?_update_self _ ho (Obj.isFreed_of_fields (Obj.data_mapFields hd _)), (Obj.cls_mapFields ..).trans hc, by
    rw [Obj.data_mapFields hd]; simp [rawInt]⟩
theorem nextOf_tuple_end {it l : Addr} {i : Nat} {items : Array Value} {Q : Value → Shared → Prop} (hh : A.handled = none)
    (hit : s.heap.IsTupleIter it l i) (hl : s.heap.IsTuple l items) (hx : items[i]? = none)
    (hE : ∀ h' e, Heap.ExtBut it s.heap h' → (∃ o, h'.get? e = some o ∧ o.cls = .type "StopIteration") → E (.ref e) { s with heap := h' }) :
    wpAny (model prog w) A (Builtin.SmallTypes.nextOf (.ref it)) Q E s := by
  obtain ⟨o, ho, hc, hd⟩ := id hit
  obtain ⟨ol, hol, _, nl, hdl⟩ := hl
  unfold Builtin.SmallTypes.nextOf
  refine wpAny_bind (wpAny_callSpecial?_slot (name := Str.ofString "__next__") hit.typeIs F.slot_tuple_iterator_next
    (wpAny_call_entry F.slot_tuple_iterator_next hit.typeIs F.entry_tuple_iterator_next ?_ (F.args_tuple_iterator_next_1 _)))
  show wpAny _ _ (field (.ref it) 0 >>= _) _ _ s
  refine wpAny_bind (wpAny_field ho hd (x := .ref l) rfl ?_)
  show wpAny _ _ (if (Value.ref l == Value.none) = true then _ else _) _ _ s
  rw [if_neg (show ¬ ((Value.ref l == Value.none) = true) from Bool.false_ne_true)]
  show wpAny _ _ (field (.ref it) 1 >>= _) _ _ s
  refine wpAny_bind (wpAny_field ho hd (x := .int i 0) rfl ?_)
  show wpAny _ _ (seqItems? (.ref l) >>= _) _ _ s
  refine wpAny_bind (wpAny_seqItems hol hdl ?_)
  simp only [Int.toNat_natCast, hx]
  refine wpAny_bind (wpAny_rule (wpAny_bind (wpAny_setField ho hd (by simp) ?_)))
  show wpAny _ _ (newExc (.type "StopIteration") [] >>= _) _ _ _
  refine wpAny_bind ?_
  simp only [newExc, newTuple]
  refine wpAny_bind (wpAny_newObj_type ?_ (by size_fits))
  refine wpAny_bind (m := firstArgMember _ _) (wpAny_of_eq (a := Value.none) (by first | rfl | (simp only [firstArgMember]; rfl)) ?_)
  refine wpAny_newObj_type ?_ (by size_fits)
  simp only [raiseNew]
  refine wpAny_bind (wpAny_handled ?_)
  first | rw [show A.in1.handled = none from hh] | rw [hh]
  refine wpAny_bind (wpAny_pure (wpAny_throw ?_))
  exact hE _ _ (((Heap.SameBut.update ..).extBut.push _).push _) ⟨_, Heap.get?_push_size _ rfl, rfl⟩
end
theorem draws_tuple {prog : Program} {w : World} {A : Around} (hh : A.handled = none) (it l : Addr) (hne : l ≠ it) (items : Array Value) :
    Draws prog w A it [it, l] items.size (fun i v => items[i]? = some v) (fun i h => h.IsTupleIter it l i ∧ h.IsTuple l items) where
  live := fun _ _ st => let ⟨o, ho, _⟩ := st.1; ⟨o, ho⟩
  frame := fun _ _ _ st hk => ⟨let ⟨o, ho, r⟩ := st.1; ⟨o, hk it (by simp) o ho, r⟩, let ⟨o, ho, r⟩ := st.2; ⟨o, hk l (by simp) o ho, r⟩⟩
  item := fun i s Q E hi st hQ => by
    refine nextOf_tuple_item st.1 st.2 (x := items[i]) (by simp [hi]) fun h' hit' hs' => ?_
    exact hQ _ h' s.toks (by simp [hi]) ⟨hit', st.2.extBut hs'.extBut hne⟩ hs'
  done := fun s Q E st hE => nextOf_tuple_end hh st.1 st.2 (by simp) hE
theorem meets_enumerate_newT (l : Addr) (items : Array Value) (n : Nat) (dct : Option Addr) (sl : Array (Option Value)) :
    Meets (Builtin.«enumerate.__new__» ⟨[.type "enumerate", .ref l], []⟩) (fun _ R s => s.heap.get? l = some { cls := .type "tuple", dict := dct, data := .seq items n, slots := sl } ∧
      R (.ok (.ret (.ref (s.heap.push { cls := .type "tuple_iterator", data := .fields #[.ref l, .int 0 0] }).objs.size)))
        { s with heap := (s.heap.push { cls := .type "tuple_iterator", data := .fields #[.ref l, .int 0 0] }).push { cls := .type "enumerate", data := .fields #[.none, .bool false, .ref s.heap.objs.size, rawInt 0, .none, .none] } }) :=
  .of_wp fun prog w A R s h => by
    obtain ⟨hp, g, d, tk, os⟩ := s; obtain ⟨hl, h⟩ := h
    have hsub := sub_enumerate
    have hL : Heap.IsTuple (Shared.heap ⟨hp, g, d, tk, os⟩) l items := ⟨_, hl, rfl, n, rfl⟩
    wp_walk using wpAny_loadPart' hl
    refine wpAny_stack_any fun st => wpAny_pure ?_
    split
    · rename_i c _ _ _ _ _
      cases (c == Value.type "enumerate")
      · wp_walk using wpAny_loadPart' hl, wpAny_pyIter_tuple hL
        exact ⟨_, rfl, h⟩
      · wp_walk using wpAny_loadPart' hl, wpAny_pyIter_tuple hL
        exact ⟨_, rfl, h⟩
    · wp_walk using wpAny_loadPart' hl, wpAny_pyIter_tuple hL
      exact ⟨_, rfl, h⟩
theorem call_enumerate_tuple {prog : Program} {w : World} {A : Around} {E : Value → Shared → Prop} {s : Shared} {l : Addr} {items : Array Value} {Q : Value → Shared → Prop} (hL : s.heap.IsTuple l items)
    (h : ∀ h', IsEnum h' (s.heap.objs.size + 1) s.heap.objs.size 0 .none → h'.IsTupleIter s.heap.objs.size l 0 → h'.objs.size = s.heap.objs.size + 2 →
      (∀ b o, s.heap.get? b = some o → h'.get? b = some o) → Q (.ref (s.heap.objs.size + 1)) { s with heap := h' }) :
    wpAny (model prog w) A (call (.type "enumerate") [.ref l]) Q E s := by
  obtain ⟨⟨c, dct, dt, sl⟩, hl, hc, n, hd⟩ := hL
  replace hc : c = .type "tuple" := hc
  replace hd : dt = .seq items n := hd
  subst hc hd
  refine callType_new F.called_enumerate (by decide) (F.typeCall_enumerate_1 _) (F.newCall_enumerate_1 _) (fun obj => F.args_object_init_2 obj _) F.entry_enumerate_new
    (meets_enumerate_newT l items n dct sl) ⟨hl, ?_⟩
  have hz : (s.heap.push { cls := .type "tuple_iterator", data := .fields #[.ref l, .int 0 0] }).objs.size = s.heap.objs.size + 1 := Heap.size_push ..
  show _ ∧ _
  rw [hz]
  have he : IsEnum ((s.heap.push { cls := .type "tuple_iterator", data := .fields #[.ref l, .int 0 0] }).push
      { cls := .type "enumerate", data := .fields #[.none, .bool false, .ref s.heap.objs.size, rawInt 0, .none, .none] }) (s.heap.objs.size + 1) s.heap.objs.size 0 .none := by
    have := Heap.get?_push_size (s.heap.push { cls := .type "tuple_iterator", data := .fields #[.ref l, .int 0 0] })
      (o := { cls := .type "enumerate", data := .fields #[.none, .bool false, .ref s.heap.objs.size, rawInt 0, .none, .none] }) rfl
    rw [hz] at this; exact this
  refine ⟨⟨_, he, rfl⟩, h _ he ⟨_, Heap.get?_push_of_some _ (Heap.get?_push_size _ rfl), rfl, rfl⟩ (by rw [Heap.size_push, hz]) fun b o x => Heap.get?_push_of_some _ (Heap.get?_push_of_some _ x)⟩
end ET
namespace L2
open PySem PySem.Spec PyProof.Rows
noncomputable def Ite (K : PySem.W.Frag) (a : Addr) : It :=
  ⟨fun i H => ∃ xs x, SqT K H a xs ∧ xs[i]? = some x,
   fun i H x H' => ∃ p v, (∀ xs, SqT K H a xs → xs[i]? = some v) ∧ H p = none ∧ x = .ref p ∧ H' = upd H p (.tup [.int i, v]),
   fun i H => ∃ xs, SqT K H a xs ∧ xs.length = i⟩
theorem turn_enumT {P : Program} {w : World} {K : PySem.W.Frag} {elts : List Expr} {k : Nat} {pos : Pos} (a e it : Addr) (hei : e ≠ it) :
    Turn P w K (.Tuple elts k pos) (Ite K a) [e, it] e (fun i h => (∃ old, IsEnum h e it i old) ∧ h.IsTupleIter it a i) where
  mem := by simp
  obj := fun i h st b hb => by
    obtain ⟨⟨old, he⟩, o, ho, hc, hd⟩ := st
    rcases List.mem_cons.mp hb with z | hb
    · subst z
      exact ⟨_, he, fun v z => by
        have z' : Data.fields _ = Data.cell v := z
        cases z'⟩
    · obtain z := List.mem_singleton.mp hb
      subst z
      exact ⟨o, ho, fun v z => by rw [hd] at z; cases z⟩
  keep := fun i h h' st kk => by
    obtain ⟨⟨old, he⟩, o, ho, r⟩ := st
    exact ⟨⟨old, kk e (by simp) _ he⟩, o, kk it (by simp) o ho, r⟩
  item := by
    intro X hP hw hK hc i pins s σ H E I hf st hg
    subst hP hw hK
    obtain ⟨xs, x, hq, hx⟩ := hg
    obtain ⟨its, rv, p, hz⟩ := I.tuple hq
    obtain ⟨u, hu, ru⟩ := rv.get hx
    obtain ⟨⟨old, he⟩, hit⟩ := st
    have ht : s.heap.IsTuple a its.toArray := p
    have hai : a ≠ it := by
      intro z
      obtain ⟨o, ho, hc1, _⟩ := id hit
      obtain ⟨o2, ho2, hc2, _⟩ := id ht
      rw [z, ho] at ho2
      cases ho2
      rw [hc1] at hc2
      exact absurd hc2 (by decide)
    have hae : a ≠ e := by
      intro z
      obtain ⟨o2, ho2, hc2, _⟩ := id ht
      have he' := he
      unfold IsEnum at he'
      rw [z, he'] at ho2
      cases ho2
      exact absurd (show Value.type "enumerate" = Value.type "tuple" from hc2) (by decide)
    have D := ET.draws_tuple (prog := X.prog) (w := X.w) (A := X.A.in1) (show X.A.in1.handled = none from I.ok.hd hc) it a hai its.toArray
    have hef : e ∉ [it, a] := by
      intro z
      rcases List.mem_cons.mp z with z | z
      · exact hei z
      · exact hae (List.mem_singleton.mp z).symm
    have W := WalksT.enumerateD D e hei hef (by simp)
    have hlt : i < its.toArray.size := by
      have h1 := (List.getElem?_eq_some_iff.mp hu).1
      simpa using h1
    refine W.item i s _ _ hlt ⟨⟨old, he⟩, hit, ht⟩ fun T vals h' tk hP hT hTup hM hk => ?_
    obtain ⟨t, y, hy, rfl⟩ := hP
    have ey : y = u := by
      have : its[i]? = some y := by simpa using hy
      rw [hu] at this
      exact (Option.some.inj this).symm
    subst ey
    have I1 : Inv X pins σ H { s with heap := h', toks := tk } := I.turnedL (ch := [e, it]) hk hf
    have hHT : H T = none := I.hok.fresh hT
    have fT : FpOk X pins H T := I.fpOk hT hHT
    refine ⟨_, rfl, ?_⟩
    refine W.go elts k pos i T { s with heap := h', toks := tk } _ _ hM fun h2 st2 hk2 => ?_
    have I2' := I1.turnedL (h' := h2) (t' := tk) (ch := [e, it]) hk2 hf
    have I2 : Inv X pins σ H { s with heap := h2, toks := tk } := I2'
    have hT2 : h2.IsTuple T #[.int i t, y] := by
      obtain ⟨o, ho, r⟩ := hTup
      exact ⟨o, hk2 T o (W.apart i T h' hM) ho, r⟩
    have I3 : Inv X pins σ (upd H T (.tup [.int i, x])) { s with heap := h2, toks := tk } :=
      I2.track fT ⟨by show 2 ≤ sizeLine; decide, [.int i t, y], .cons ⟨t, rfl⟩ (.cons ru .nil), hT2⟩
    refine ⟨.ref T, _, I3, rfl, ⟨T, x, fun ys hy' => by rw [I.tuple_inj hy' hq]; exact hx, hHT, rfl, rfl⟩, ⟨by simpa using st2.1, st2.2.1⟩, fun b hb => ?_⟩
    rw [upd_ne (fun z => W.apart i T h' hM (by rw [← z]; exact hb))]
    exact (hf b hb).1
  done := by
    intro X hP hw hK hc i pins s σ H E I hf st hg
    subst hP hw hK
    obtain ⟨xs, hq, hx⟩ := hg
    obtain ⟨its, rv, p, hz⟩ := I.tuple hq
    obtain ⟨⟨old, he⟩, hit⟩ := st
    have ht : s.heap.IsTuple a its.toArray := p
    have hai : a ≠ it := by
      intro z
      obtain ⟨o, ho, hc1, _⟩ := id hit
      obtain ⟨o2, ho2, hc2, _⟩ := id ht
      rw [z, ho] at ho2
      cases ho2
      rw [hc1] at hc2
      exact absurd hc2 (by decide)
    have hae : a ≠ e := by
      intro z
      obtain ⟨o2, ho2, hc2, _⟩ := id ht
      have he' := he
      unfold IsEnum at he'
      rw [z, he'] at ho2
      cases ho2
      exact absurd (show Value.type "enumerate" = Value.type "tuple" from hc2) (by decide)
    have D := ET.draws_tuple (prog := X.prog) (w := X.w) (A := X.A.in1) (show X.A.in1.handled = none from I.ok.hd hc) it a hai its.toArray
    have hef : e ∉ [it, a] := by
      intro z
      rcases List.mem_cons.mp z with z | z
      · exact hei z
      · exact hae (List.mem_singleton.mp z).symm
    have W := WalksT.enumerateD D e hei hef (by simp)
    have hl := rv.length
    have hn : i = its.toArray.size := by simp; omega
    refine W.done s _ _ ⟨⟨old, by rw [← hn]; exact he⟩, by rw [← hn]; exact hit, ht⟩ fun h' tk hk => ⟨rfl, ?_⟩
    exact I.turnedL (ch := [e, it]) hk hf
  self := fun _ _ _ _ _ st h => by
    obtain ⟨⟨old, he⟩, _⟩ := st
    exact wpAny_pyIter_enum he h
section
variable {X : Cx} {elts : List Expr} {k : Nat} {tpos : Pos}
noncomputable def iEnum (K : PySem.W.Frag) (ta : TA) : TI := fun σ H R => ta σ H fun vs H1 => ∃ a, vs = [.ref a] ∧ (∃ xs, SqT K H1 a xs) ∧ R (Ite K a) H1
theorem pi_enumT {a : Expr} {ta : TA} {p pos : Pos} (hg : Gl X "enumerate") (hm : X.mg "enumerate" = none) (ha : PA X [a] ta) (hs : starEach [a] X.env = [(false, eval a X.env)] := by rfl) :
    PI X (.Tuple elts k tpos) (.Call (.Name "enumerate" p) [a] [] pos) (iEnum X.K ta) := by
  intro pins s σ H R I h
  refine Call_ (ld_blt I hg hm boot_enumerate (PyProof.Rows.callWith_type1 (thn (ha pos pins s σ H _ I h) fun us s1 hpat => ?_) hs rfl))
  obtain ⟨vs, H1, I1, r1, q1⟩ := hpat
  obtain ⟨a, e, ⟨xs, hq⟩, q⟩ := q1
  subst e
  cases r1 with
  | cons r rr =>
    cases rr
    cases r
    obtain ⟨its, rv, p, hz⟩ := I1.tuple hq
    refine ET.call_enumerate_tuple (show s1.heap.IsTuple a its.toArray from p) fun h' he hit hsz hk => ?_
    have I2 : Inv X pins σ H1 { s1 with heap := h' } := I1.kept (t' := s1.toks) hk
    refine wpAny_pyIter_enum he ?_
    refine ⟨s1.heap.objs.size + 1, [s1.heap.objs.size + 1, s1.heap.objs.size], _, _, H1, rfl, I2, turn_enumT a (s1.heap.objs.size + 1) s1.heap.objs.size (Nat.succ_ne_self _), ⟨⟨_, he⟩, hit⟩, fun b hb => ?_, q⟩
    have hb' : s1.heap.objs.size ≤ b := by
      rcases List.mem_cons.mp hb with z | z
      · rw [z]; exact Nat.le_succ _
      · rw [List.mem_singleton.mp z]; exact Nat.le_refl _
    exact I1.fpOk hb' (I1.hok.fresh hb')
end
theorem for_enum {K : PySem.W.Frag} {a : Addr} {xs : List V} {g : TG} {tb : TS} {D : Ends} {σ : St} {H : Hp} (Pv : Nat → St → Hp → Prop) (h0 : Pv 0 σ H) (hl : ∀ i σ H, i ≤ xs.length → Pv i σ H → SqT K H a xs)
    (hs : ∀ i x p σ H, xs[i]? = some x → Pv i σ H → H p = none → g (.ref p) σ (upd H p (.tup [.int i, x])) fun σ2 H2 => tb { D with nx := Pv (i + 1), ct := Pv (i + 1), bk := D.nx } σ2 H2) (hd : ∀ σ H, Pv xs.length σ H → D.nx σ H) :
    ∃ W : Nat → Nat → St → Hp → Prop, (∃ m, W 0 m σ H) ∧ ∀ i m σ H, W i m σ H →
      ((Ite K a).stop i H ∧ D.nx σ H) ∨ ((Ite K a).go i H ∧ ∃ N : St → Hp → Prop, (∀ σ' H', N σ' H' → ∃ m', m' < m ∧ W (i + 1) m' σ' H') ∧ ∀ x H', (Ite K a).yld i H x H' → g x σ H' fun σ2 H2 => tb { D with nx := N, ct := N, bk := D.nx } σ2 H2) := by
  refine ⟨fun i m σ H => m = xs.length - i ∧ i ≤ xs.length ∧ Pv i σ H, ⟨xs.length, by simp, Nat.zero_le _, h0⟩, ?_⟩
  rintro i m σ H ⟨rfl, hi, p⟩
  have q := hl i σ H hi p
  by_cases hlt : i < xs.length
  · refine .inr ⟨⟨xs, xs[i], q, by simp [hlt]⟩, Pv (i + 1), fun σ' H' p' => ⟨xs.length - (i + 1), by omega, rfl, hlt, p'⟩, fun x H' y => ?_⟩
    obtain ⟨pp, v, y, hn, e1, e2⟩ := y
    subst e1 e2
    exact hs i v pp σ _ (y xs q) p hn
  · have e : i = xs.length := by omega
    subst e
    exact .inl ⟨⟨xs, q, rfl⟩, hd σ H p⟩
end L2
set_option Elab.async false
set_option linter.all false
set_option maxRecDepth 100000
set_option maxHeartbeats 4000000
namespace L2
open PySem PySem.Spec PyProof.Rows
set_option genInjectivity false in
structure Cl (P : Program) (w : World) (K : PySem.W.Frag) (mg : Str → Option Value) (base : Heap) (k : Nat) (x : Str) (ps : List Str) (sp : Sp) : Prop where
  ex : ∃ f fd, FnOk P w K mg base CX0 k f fd ps sp ∧ mg x = some (.ref f) ∧ PySem.W.keepIn K (.ref f) = true ∧ Binds K fd ps []
theorem pe_fn {X : Cx} {j k : Nat} {x : Str} {ps : List Str} {sp : Sp} {e : Expr} {es : List Expr} {t : TA} {p pos : Pos} (C : Cl X.prog X.w X.K X.mg X.base j x ps sp) (hr : Room k X.A) (hg : Gl X x) (ha : PA X (e :: es) t) (hjk : j ≤ k := by decide)
    (hdb : (x == ("__debug__" : Str)) = false := by decide) (he : starEach (e :: es) X.env = (false, eval e X.env) :: starEach es X.env := by rfl) (hpl : (backTo pos (starEach es X.env)).any (·.1) = false := by rfl) :
    PE X (.Call (.Name x p) (e :: es) [] pos) (tCall sp [] E0 t) := by
  obtain ⟨f, fd, F, hm, hk, hb⟩ := C.ex
  exact pe_call F (hr.mono hjk) hg hm hk hb .nil pass0 ha hdb he hpl
noncomputable def HasDef (K : PySem.W.Frag) (mg : Str → Option Value) (x : Str) (st : Stmt) : Prop := ∃ f fd, Fun K x x st f fd ∧ mg x = some (.ref f)
theorem hasDef_mk {K : PySem.W.Frag} {mg : Str → Option Value} {h : Heap} {x : Str} {st : Stmt} {f : Addr} {oc : Value} {od an : Option Addr} {osl : Array (Option Value)} {kV doc pm cdv ct : Value} (X : K.In h) (G : h.Ns mainGlobals mg)
    (a : PySem.W.nsIn K mainGlobals x = some (some (.ref f))) (l : K.lookup f = some ⟨oc, od, .func (PySem.W.fnOf x x (defArgs st) (defBody st) (defScope st) .none kV doc pm an cdv ct), osl⟩)
    (c : PySem.W.codeIn K cdv x = true) (k : PySem.W.keepIn K (.ref f) = true) : HasDef K mg x st :=
  ⟨f, _, fun_mk l c k, PySem.W.mg_of X G a⟩
theorem Cl.of {P : Program} {w : World} {K : PySem.W.Frag} {mg : Str → Option Value} {base : Heap} {x : Str} {st : Stmt} {N ps : List Str} {k : Nat} {sp : Sp} (T : HasDef K mg x st) (S : FnScope N ps (defScope st)) (len : ∀ vs H Q E, sp vs H Q E → vs.length = ps.length)
    (hb : ∀ (kV doc pm : Value) (an : Option Addr) (cdv ct : Value) (us : List Value), us.length = ps.length → bindArgs (PySem.W.fnOf x x (defArgs st) (defBody st) (defScope st) .none kV doc pm an cdv ct) ⟨us, []⟩ = pure (ps.zip us))
    (hbody : ∀ (f : Addr) (cdv : Value) (A : Around) (outer : List Env) (s : Shared) (H : Hp) (vs : List V) (Q : VK) (E : XK), Room k (A.deeper (envOfC x (defScope st) s.heap.objs.size f cdv)) → sp vs H Q E →
      ∃ t, PSs (cxOf CX0 P w K mg base N x (defScope st) f cdv A outer s H E).nox (defBody st) t ∧ t { nx := fun _ H' => Q .non H', rt := Q } (start N vs) H) : Cl P w K mg base (k + 1) x ps sp := by
  obtain ⟨f, fd, F, m⟩ := T
  exact ⟨f, fd, F.ok S len (fun cdv A outer s H vs Q E => hbody f cdv A outer s H vs Q E), m, F.kp, F.binds hb⟩
noncomputable def Tups (H H' : Hp) : Prop := ∀ b xs, H b = some (.tup xs) → H' b = some (.tup xs)
section
variable {H H1 H2 : Hp} {l p : Addr} {o : HO} {xs ys : List V}
theorem Same.tups (e : Same H H1) : Tups H H1 := fun b xs q => e b _ q
theorem Tups.refl (H : Hp) : Tups H H := fun _ _ q => q
theorem Tups.trans (a : Tups H H1) (b : Tups H1 H2) : Tups H H2 := fun c xs q => b c xs (a c xs q)
theorem Tups.lst (h : H l = some (.lst xs)) : Tups H (upd H l (.lst ys)) := fun b zs q => by
  rw [upd_ne (ne_of q h (by intro z; cases z))]; exact q
theorem Tups.new (h : H p = none) : Tups H (upd H p o) := fun b zs q => by
  rw [upd_ne (ne_of_none q h)]; exact q
theorem Same.put (s : Same H H1) (h : H l = none) : Same H (upd H1 l o) := fun b u q => by
  rw [upd_ne (ne_of_none q h)]; exact s b u q
theorem Same.new (s : Same H H1) (h : H1 p = none) : Same H (upd H1 p o) := s.put (s.free h)
theorem upd_keep {u : HO} (h : H l = some u) (hp : H p = none) : upd H p o l = some u := by
  rw [upd_ne (ne_of_none h hp)]; exact h
end
theorem atI_getD {α : Type} (xs : List α) (d : α) {i : Int} (h0 : 0 ≤ i) (h1 : i < (xs.length : Int)) : atI xs i = some (xs.getD i.toNat d) := by
  have e : i = ((i.toNat : Nat) : Int) := by omega
  have hl : i.toNat < xs.length := by omega
  have hx : xs[i.toNat]? = some (xs.getD i.toNat d) := by
    rw [List.getD_eq_getElem?_getD]
    simp [hl]
  have := atI_nat hx
  rw [← e] at this
  exact this
theorem atI_mem {α : Type} (xs : List α) {i : Int} (h0 : 0 ≤ i) (h1 : i < (xs.length : Int)) : ∃ v, v ∈ xs ∧ atI xs i = some v := by
  have e : i = ((i.toNat : Nat) : Int) := by omega
  have hl : i.toNat < xs.length := by omega
  have hx : xs[i.toNat]? = some xs[i.toNat] := by simp [hl]
  refine ⟨xs[i.toNat], List.getElem_mem hl, ?_⟩
  have := atI_nat hx
  rw [← e] at this
  exact this
theorem atI_map {α : Type} (f : α → V) (xs : List α) (d : α) {i : Int} (h0 : 0 ≤ i) (h1 : i < (xs.length : Int)) : atI (xs.map f) i = some (f (xs.getD i.toNat d)) := by
  have := atI_getD (xs.map f) (f d) h0 (by simpa using h1)
  rw [this, List.getD_eq_getElem?_getD, List.getElem?_map, List.getD_eq_getElem?_getD]
  have hl : i.toNat < xs.length := by omega
  simp [hl]
theorem iteSE {x : Str} {A B : Prop} (h : A) : if decide (V.str x = V.str x) = true then A else B := by
  rw [if_pos (decide_eq_true rfl)]; exact h
theorem iteSN {x y : Str} {A B : Prop} (e : ¬ x = y) (h : B) : if decide (V.str x = V.str y) = true then A else B := by
  rw [if_neg (by rw [decide_eq_false (fun q => e (V.str.inj q))]; exact Bool.false_ne_true)]; exact h
theorem ite2I {i j : Int} {A B : Prop} (h1 : i = j → A) (h2 : ¬ i = j → B) : if decide (V.int i = V.int j) = true then A else B :=
  ite2 (fun h => h1 (V.int.inj (of_decide_eq_true h))) fun h => h2 fun e => h (decide_eq_true (congrArg V.int e))
theorem iteDP {p : Prop} [Decidable p] {A B : Prop} (hp : p) (h : A) : if decide p = true then A else B := by
  rw [if_pos (decide_eq_true hp)]; exact h
theorem iteDN {p : Prop} [Decidable p] {A B : Prop} (hp : ¬ p) (h : B) : if decide p = true then A else B := by
  rw [if_neg (by rw [decide_eq_false hp]; exact Bool.false_ne_true)]; exact h
theorem kit_same (K : PySem.W.Frag) (T : String) : PySem.W.kitOne K (.type T) (.type T) = some true := by
  unfold PySem.W.kitOne
  rw [if_pos (by simp)]
theorem kit_int_str (K : PySem.W.Frag) : PySem.W.kitOne K (.type "int") (.type "str") = some false := by kernel_rfl
theorem kit_int_bool (K : PySem.W.Frag) : PySem.W.kitOne K (.type "int") (.type "bool") = some false := by kernel_rfl
noncomputable def isLet (c : Nat) : Bool := decide (97 ≤ c) && decide (c ≤ 122)
noncomputable def isFig (c : Nat) : Bool := decide (48 ≤ c) && decide (c ≤ 57)
noncomputable def isSg (c : Nat) : Bool := isLet c || isFig c
noncomputable def isNm : List Nat → Bool
  | [] => false
  | c :: r => isLet c && r.all isSg && decide (r.length ≤ 7)
noncomputable def NameOk (x : Str) : Prop := isNm x.cps.toList = true
noncomputable instance (x : Str) : Decidable (NameOk x) := inferInstanceAs (Decidable (_ = true))
theorem nameOk_one {c : Nat} (h : isLet c = true) : NameOk ⟨#[c]⟩ := by
  show (isLet c && ([] : List Nat).all isSg && decide (([] : List Nat).length ≤ 7)) = true
  simp [h]
theorem nameOk_snoc {x : Str} {c : Nat} (h : NameOk x) (hc : isSg c = true) (hl : x.length ≤ 7) : NameOk (x ++ ⟨#[c]⟩) ∧ (x ++ (⟨#[c]⟩ : Str)).length = x.length + 1 := by
  obtain ⟨⟨l⟩⟩ := x
  have e : ((⟨⟨l⟩⟩ : Str) ++ (⟨#[c]⟩ : Str)) = ⟨⟨l ++ [c]⟩⟩ := by
    show (⟨(⟨l⟩ : Array Nat) ++ #[c]⟩ : Str) = ⟨⟨l ++ [c]⟩⟩
    congr 1
    simp
  rw [e]
  have hl' : l.length ≤ 7 := by simpa [Str.length] using hl
  constructor
  · cases l with
    | nil => exact absurd (show false = true from h) Bool.false_ne_true
    | cons d r =>
      have h' : (isLet d && r.all isSg && decide (r.length ≤ 7)) = true := h
      show (isLet d && (r ++ [c]).all isSg && decide ((r ++ [c]).length ≤ 7)) = true
      simp only [Bool.and_eq_true, decide_eq_true_eq, List.all_append, List.length_append, List.length_cons, List.length_nil] at h' hl' ⊢
      refine ⟨⟨h'.1.1, h'.1.2, ?_⟩, by omega⟩
      simp [hc]
  · simp [Str.length]
inductive Th where
  | num (n : Int)
  | nam (x : Str)
noncomputable def thV : Th → V
  | .num n => .int n
  | .nam x => .str x
noncomputable def ThOk : Th → Prop
  | .num n => 0 ≤ n ∧ n < 10 ^ 60
  | .nam x => NameOk x
noncomputable def TermAt (H : Hp) (v : V) (t : Int × Th) : Prop := ∃ p, v = .ref p ∧ H p = some (.tup [.int t.1, thV t.2]) ∧ ThOk t.2
noncomputable abbrev Terms (H : Hp) : List V → List (Int × Th) → Prop := Paired (TermAt H)
theorem Paired.get? {α β : Type} {F : α → β → Prop} : ∀ {xs : List α} {ys : List β} {i : Nat} {x : α}, Paired F xs ys → xs[i]? = some x → ∃ y, ys[i]? = some y ∧ F x y
  | _, _, _, _, .nil, e => by simp at e
  | _, _, 0, _, .cons r _, e => by simp at e; subst e; exact ⟨_, rfl, r⟩
  | _, _, i + 1, x, .cons _ t, e => by
    obtain ⟨u, h1, h2⟩ := Paired.get? (i := i) (x := x) t (by simpa using e)
    exact ⟨u, by simpa using h1, h2⟩
theorem TermAt.mono {H H' : Hp} (s : Tups H H') {v : V} {t : Int × Th} (h : TermAt H v t) : TermAt H' v t := by
  obtain ⟨p, e, h, o⟩ := h
  exact ⟨p, e, s p _ h, o⟩
theorem Terms.mono {H H' : Hp} (s : Tups H H') {vs : List V} {ts : List (Int × Th)} (h : Terms H vs ts) : Terms H' vs ts := Paired.mapP h fun _ _ q => q.mono s
set_option genInjectivity false in
structure TermsAt (H : Hp) (t : Addr) (ts : List (Int × Th)) : Prop where
  ex : ∃ vs, H t = some (.tup vs) ∧ Terms H vs ts
  lo : 1 ≤ ts.length
  hi : ts.length ≤ 6
theorem TermsAt.mono {H H' : Hp} (s : Tups H H') {t : Addr} {ts : List (Int × Th)} (h : TermsAt H t ts) : TermsAt H' t ts := by
  obtain ⟨⟨vs, h1, h2⟩, lo, hi⟩ := h
  exact ⟨⟨vs, s t _ h1, h2.mono s⟩, lo, hi⟩
noncomputable def NameAt (H : Hp) (v : V) (d : Int × Str) : Prop := ∃ p, v = .ref p ∧ H p = some (.tup [.int d.1, .str d.2])
noncomputable abbrev Names (H : Hp) : List V → List (Int × Str) → Prop := Paired (NameAt H)
theorem NameAt.mono {H H' : Hp} (s : Tups H H') {v : V} {t : Int × Str} (h : NameAt H v t) : NameAt H' v t := by
  obtain ⟨p, e, h⟩ := h
  exact ⟨p, e, s p _ h⟩
theorem Names.mono {H H' : Hp} (s : Tups H H') {vs : List V} {ts : List (Int × Str)} (h : Names H vs ts) : Names H' vs ts := Paired.mapP h fun _ _ q => q.mono s
noncomputable def namesOf : Int → List (Int × Th) → List (Int × Str)
  | _, [] => []
  | k, (_, .num _) :: r => namesOf (k + 2) r
  | k, (_, .nam x) :: r => (k, x) :: namesOf (k + 2) r
theorem namesOf_append : ∀ (ts us : List (Int × Th)) (k : Int), namesOf k (ts ++ us) = namesOf k ts ++ namesOf (k + 2 * ts.length) us
  | [], us, k => by simp [namesOf]
  | (s, .num n) :: r, us, k => by
    have e : k + 2 + 2 * (r.length : Int) = k + 2 * (((s, Th.num n) :: r).length : Int) := by simp; omega
    show namesOf (k + 2) (r ++ us) = namesOf (k + 2) r ++ namesOf (k + 2 * (((s, Th.num n) :: r).length : Int)) us
    rw [namesOf_append r us (k + 2), e]
  | (s, .nam x) :: r, us, k => by
    have e : k + 2 + 2 * (r.length : Int) = k + 2 * (((s, Th.nam x) :: r).length : Int) := by simp; omega
    show (k, x) :: namesOf (k + 2) (r ++ us) = (k, x) :: namesOf (k + 2) r ++ namesOf (k + 2 * (((s, Th.nam x) :: r).length : Int)) us
    rw [namesOf_append r us (k + 2), e]
    rfl
theorem namesOf_length : ∀ (ts : List (Int × Th)) (k : Int), (namesOf k ts).length ≤ ts.length
  | [], k => by simp [namesOf]
  | (s, .num n) :: r, k => by
    have := namesOf_length r (k + 2)
    show (namesOf (k + 2) r).length ≤ _
    simp only [List.length_cons]; omega
  | (s, .nam x) :: r, k => by
    have := namesOf_length r (k + 2)
    show ((k, x) :: namesOf (k + 2) r).length ≤ _
    simp only [List.length_cons]; omega
theorem take_succ_get {α : Type} {l : List α} {i : Nat} {x : α} (h : l[i]? = some x) : l.take (i + 1) = l.take i ++ [x] := by
  rw [List.take_succ, h]; rfl
end L2
set_option Elab.async false
set_option linter.all false
set_option maxRecDepth 100000
set_option maxHeartbeats 4000000
namespace L2
open PySem PySem.Spec PyProof.Rows
section
variable {X : Cx}
end
section
variable {X : Cx}
end
end L2
set_option Elab.async false
set_option linter.all false
set_option maxRecDepth 100000
set_option maxHeartbeats 4000000
namespace L2
open PySem PySem.Spec PyProof.Rows
noncomputable def closL (cells : List (Str × Addr)) : List (Str × NameKind) → List (Str × Addr) → List (Str × Addr)
  | [], cs => cs
  | (n, k) :: r, cs => closL cells r (if k == .free then (n, (cells.lookup n).getD 0) :: cs else cs)
theorem closL_pure {cells : List (Str × Addr)} {env : Env} (he : env.cells = cells) : ∀ (l : List (Str × NameKind)) (cs : List (Str × Addr)), (∀ y ∈ l, y.2 = .free → ∃ c, cells.lookup y.1 = some c) →
    (forIn l cs fun p cs => (do if p.2 == .free then (do let a ← cellOf env p.1; pure (ForInStep.yield ((p.1, a) :: cs))) else pure (ForInStep.yield cs) : Sem (ForInStep (List (Str × Addr))))) = pure (closL cells l cs) := by
  intro l
  induction l with
  | nil => intro cs _; rfl
  | cons p r ih =>
    intro cs h
    obtain ⟨n, k⟩ := p
    rw [List.forIn_cons]
    have hr : ∀ y ∈ r, y.2 = .free → ∃ c, cells.lookup y.1 = some c := fun y hy => h y (List.mem_cons_of_mem _ hy)
    by_cases hk : k = .free
    · subst hk
      obtain ⟨c, hc⟩ := h (n, .free) List.mem_cons_self rfl
      have hc' : env.cells.lookup n = some c := by rw [he]; exact hc
      have e : cellOf env n = pure c := by unfold cellOf; rw [hc']
      simp only [beq_self_eq_true, if_true, e, pure_bind]
      rw [ih _ hr]
      unfold closL
      rw [if_pos (by simp), show (cells.lookup n).getD 0 = c by rw [show cells.lookup n = some c from hc]; rfl]
      conv => rhs; unfold closL
    · have hb : (k == NameKind.free) = false := by simpa using hk
      simp only [hb, Bool.false_eq_true, if_false, pure_bind]
      rw [ih _ hr]
      conv => rhs; unfold closL
      rw [if_neg (by rw [hb]; exact Bool.false_ne_true)]
theorem closL_lookup {cells : List (Str × Addr)} {x : Str} {c : Addr} : ∀ (l : List (Str × NameKind)) (cs : List (Str × Addr)), (∀ y ∈ l, y.2 = .free → ∃ c, cells.lookup y.1 = some c) → (closL cells l cs).lookup x = some c → cells.lookup x = some c ∨ cs.lookup x = some c
  | [], cs, _, h => .inr h
  | (n, k) :: r, cs, hy, h => by
    unfold closL at h
    rcases closL_lookup r _ (fun y q => hy y (List.mem_cons_of_mem _ q)) h with h | h
    · exact .inl h
    · by_cases hk : k = .free
      · subst hk
        obtain ⟨c', hc⟩ := hy (n, .free) List.mem_cons_self rfl
        have hc : cells.lookup n = some c' := hc
        rw [if_pos (by simp), List.lookup_cons] at h
        split at h
        · rename_i e
          have e' : x = n := by simpa using e
          subst e'
          rw [hc] at h
          cases h
          exact .inl hc
        · exact .inr h
      · rw [if_neg (by simpa using hk)] at h
        exact .inr h
theorem closL_keep {cells : List (Str × Addr)} {x : Str} : ∀ (l : List (Str × NameKind)) (cs : List (Str × Addr)), (∃ c, cs.lookup x = some c) → ∃ c, (closL cells l cs).lookup x = some c
  | [], _, h => h
  | (n, k) :: r, cs, h => by
    unfold closL
    refine closL_keep r _ ?_
    split
    · rw [List.lookup_cons]
      split
      · exact ⟨_, rfl⟩
      · exact h
    · exact h
theorem closL_has {cells : List (Str × Addr)} {x : Str} : ∀ (l : List (Str × NameKind)) (cs : List (Str × Addr)), (x, NameKind.free) ∈ l → ∃ c, (closL cells l cs).lookup x = some c
  | (n, k) :: r, cs, h => by
    unfold closL
    rcases List.mem_cons.mp h with e | h
    · cases e
      refine closL_keep r _ ?_
      rw [if_pos (by simp), List.lookup_cons]
      simp
    · exact closL_has r _ h
theorem closure_pure {sc : Scope} {env : Env} (h : ∀ y ∈ sc.names, y.2 = .free → ∃ c, env.cells.lookup y.1 = some c) : closureFor sc env = pure (closL env.cells sc.names []) := by
  have := closL_pure (env := env) rfl sc.names [] h
  unfold closureFor
  simp only [bind_pure]
  exact this
theorem relabel_free {env : Env} {x : Str} : ∀ {names : List (Str × NameKind)}, names.lookup x = some .free →
    (names.map fun (n, k) => if (k == NameKind.free && env.scope.kind == .function && env.kindOf n == some .cell) then (n, NameKind.cell) else (n, k)).lookup x = some .cell ∨
    (names.map fun (n, k) => if (k == NameKind.free && env.scope.kind == .function && env.kindOf n == some .cell) then (n, NameKind.cell) else (n, k)).lookup x = some .free
  | [], h => by simp at h
  | (n, k) :: r, h => by
    have ih := @relabel_free env x r
    simp only [List.map_cons]
    by_cases hc : (k == NameKind.free && env.scope.kind == .function && env.kindOf n == some .cell) = true
    · rw [if_pos hc]
      simp only [List.lookup_cons] at h ⊢
      cases hx : x == n with
      | true => exact .inl rfl
      | false => simp only [hx] at h ⊢; exact ih h
    · rw [if_neg hc]
      simp only [List.lookup_cons] at h ⊢
      cases hx : x == n with
      | true => simp only [hx] at h ⊢; exact .inr h
      | false => simp only [hx] at h ⊢; exact ih h
theorem relabel_back {env : Env} {x : Str} : ∀ {names : List (Str × NameKind)},
    (names.map fun (n, k) => if (k == NameKind.free && env.scope.kind == .function && env.kindOf n == some .cell) then (n, NameKind.cell) else (n, k)).lookup x = some .cell ∨
    (names.map fun (n, k) => if (k == NameKind.free && env.scope.kind == .function && env.kindOf n == some .cell) then (n, NameKind.cell) else (n, k)).lookup x = some .free →
    (x, NameKind.free) ∈ names ∨ (x, NameKind.cell) ∈ names
  | [], h => by simp at h
  | (n, k) :: r, h => by
    have ih := @relabel_back env x r
    simp only [List.map_cons] at h
    have tl : (x, NameKind.free) ∈ r ∨ (x, NameKind.cell) ∈ r → (x, NameKind.free) ∈ (n, k) :: r ∨ (x, NameKind.cell) ∈ (n, k) :: r := fun q => q.imp (List.mem_cons_of_mem _) (List.mem_cons_of_mem _)
    by_cases hc : (k == NameKind.free && env.scope.kind == .function && env.kindOf n == some .cell) = true
    · rw [if_pos hc] at h
      have hk : k = .free := by
        simp only [Bool.and_eq_true] at hc
        simpa using hc.1.1
      simp only [List.lookup_cons] at h
      cases hx : x == n with
      | true =>
        have e : x = n := by simpa using hx
        subst e hk
        exact .inl List.mem_cons_self
      | false => simp only [hx] at h; exact tl (ih h)
    · rw [if_neg hc] at h
      simp only [List.lookup_cons] at h
      cases hx : x == n with
      | true =>
        have e : x = n := by simpa using hx
        subst e
        simp only [hx] at h
        rcases h with h | h
        · cases h; exact .inr List.mem_cons_self
        · cases h; exact .inl List.mem_cons_self
      | false => simp only [hx] at h; exact tl (ih h)
set_option genInjectivity false in
structure CompScope (osc : Scope) (N : List Str) (sc : Scope) (M : List Str) (ρ : List (Option Nat)) : Prop where
  kind : sc.kind = .function
  nocell : ∀ y ∈ sc.names, y.2 ≠ .cell
  own : ∀ y ∈ sc.names, y.2 = .local → sc.names.lookup y.1 = some .local
  fre : ∀ y ∈ sc.names, y.2 = .free → osc.names.lookup y.1 = some .cell ∨ osc.names.lookup y.1 = some .free
  len : ρ.length = M.length
  ren : ∀ p ∈ ρ.zip M, (match p.1 with | none => true | some i => decide (N[i]? = some p.2 ∧ sc.names.lookup p.2 = some .free)) = true
  nd : M.Nodup
noncomputable def subS (ρ : List (Option Nat)) (σ : St) : St := ρ.map fun o => match o with | none => none | some i => (σ[i]?).join
noncomputable def cxComp (X : Cx) (sc : Scope) (cl : List (Str × Addr)) (C : Addr) (M : List Str) (s : Shared) (H : Hp) (fp : List Addr) (xe : Value → Shared → Prop) : Cx where
  prog := X.prog
  w := X.w
  K := X.K
  mg := X.mg
  base := X.base
  A := X.A
  N := M
  s₀ := s
  H₀ := H
  env := compEnvC sc cl C X.env
  outer := X.stack
  stack := X.stack
  ex := fp
  fn := fun _ => false
  calm := X.calm
  pn := []
  xe := xe
theorem comp_loop {P : Program} {w : World} {A : Around} {R : Result → Shared → Prop} {s : Shared} {elt tg iter : Expr} {ifs : List Expr} {sc : Scope} {pos : Pos} {it acc : Value} {env : Env} (J : Nat → Shared → Prop)
    (turn : ∀ n s, J n s → wpAny (model P w) A (pyNext it) (fun r s1 => match r with
      | none => R (.ok .next) s1
      | some v => wpAny (model P w) A (letOwnedTupleGo tg it v) (fun _ s2 => wpAny (model P w) A (assign tg env v) (fun _ s3 =>
          wpAny (model P w) A (forIn ifs true fun c r => if r = true then do let ok ← isTrue c env (eval c env); pure (ForInStep.yield ok) else pure (ForInStep.yield r)) (fun ok s4 =>
            if ok = true then wpAny (model P w) A (eval elt env) (fun x s5 => wpAny (model P w) A (call (.builtin "list.append") [acc, x]) (fun _ s6 => ∃ m, m < n ∧ J m s6) (notedBy (model P w) A env fun e s' => R (.error e) s') s5)
              (notedBy (model P w) A env fun e s' => R (.error e) s') s4
            else ∃ m, m < n ∧ J m s4) (notedBy (model P w) A env fun e s' => R (.error e) s') s3) (notedBy (model P w) A env fun e s' => R (.error e) s') s2) (notedBy (model P w) A env fun e s' => R (.error e) s') s1)
      (notedBy (model P w) A env fun e s' => R (.error e) s') s)
    (n : Nat) (h : J n s) : codeAny (model P w) A (.compLoop (.ListComp elt [⟨tg, iter, ifs, 0⟩] sc pos) 0 it acc env) R s := by
  refine codeAny_loop rfl J (fun n s hJ => ?_) n h
  show wpAny (model P w) A ((compTurn (.ListComp elt [⟨tg, iter, ifs, 0⟩] sc pos) 0 it acc env).onRaise fun x => do noteFrame x env; theTreesLotGoes x) _ _ s
  refine wpAny_noted ?_
  rw [compTurn_list]
  refine wpAny_bind (wpAny_standAt (wpAny_bind (thn (turn n s hJ) fun r s1 h1 => ?_)))
  cases r with
  | none => exact wpAny_pure h1
  | some v =>
    refine wpAny_bind (thn h1 fun _ s2 h2 => wpAny_bind (thn h2 fun _ s3 h3 => wpAny_bind (thn h3 fun ok s4 h4 => ?_)))
    cases ok with
    | false => exact wpAny_pure ⟨rfl, h4⟩
    | true => exact wpAny_bind (wpAny_bind (thn h4 fun x s5 h5 => wpAny_bind (thn h5 fun _ s6 h6 => wpAny_pure (wpAny_pure ⟨rfl, h6⟩))))
noncomputable def PTs (X : Cx) (ifs : List Expr) (t : TT) : Prop :=
  ∀ (pins : List (Addr × Obj)) (s : Shared) (σ : St) (H : Hp) (Q : Bool → Hp → Prop), Inv X pins σ H s → t σ H Q →
    wpAny (model X.prog X.w) X.A (forIn ifs true fun c r => if r = true then do let ok ← isTrue c X.env (eval c X.env); pure (ForInStep.yield ok) else pure (ForInStep.yield r)) (TP X pins σ Q) X.xe s
noncomputable def tNoTest : TT := fun _ H Q => Q true H
theorem ntG {i : Nat} {v : V} {σ : St} {H : Hp} {A B : St → Hp → Prop} (h : A (σ.set i (some v)) H) : gName i v σ H (fun σ4 H4 => tNoTest σ4 H4 fun b H5 => if b = true then A σ4 H5 else B σ4 H5) := by
  show if true = true then A (σ.set i (some v)) H else B (σ.set i (some v)) H
  exact iteT h
theorem pts_nil {X : Cx} : PTs X [] tNoTest := fun _ _ _ H _ I h => wpAny_tests_nil ⟨H, I, h⟩
noncomputable def tComp (wi : TI) (ρ : List (Option Nat)) (g : TG) (tt : TT) (te : TE) : TE := fun σ H Q => wi σ H fun J H1 => ∀ D, H1 D = none → ∃ W : Nat → Nat → St → Hp → Prop, (∃ m, W 0 m (subS ρ σ) (upd H1 D (.lst []))) ∧ ∀ i m σ2 H2, W i m σ2 H2 →
  (J.stop i H2 ∧ Q (.ref D) H2) ∨ (J.go i H2 ∧ ∃ N : St → Hp → Prop, (∀ σ' H', N σ' H' → ∃ m', m' < m ∧ W (i + 1) m' σ' H') ∧ ∀ x H3, J.yld i H2 x H3 → g x σ2 H3 fun σ4 H4 => tt σ4 H4 fun b H5 =>
    if b = true then te σ4 H5 fun y H6 => ∃ ys, H6 D = some (.lst ys) ∧ ys.length < sizeLine ∧ N σ4 (upd H6 D (.lst (ys ++ [y])))
    else N σ4 H5)
theorem comp_by {J : It} {g : TG} {tt : TT} {te : TE} {Q : Hp → Prop} {σ : St} {H : Hp} {D : Addr} (n : Nat) (Pv : Nat → St → Hp → Prop) (h0 : Pv 0 σ (upd H D (.lst [])))
    (hs : ∀ i σ2 H2, i < n → Pv i σ2 H2 → J.go i H2 ∧ ∀ x H3, J.yld i H2 x H3 → g x σ2 H3 fun σ4 H4 => tt σ4 H4 fun b H5 =>
      if b = true then te σ4 H5 fun y H6 => ∃ ys, H6 D = some (.lst ys) ∧ ys.length < sizeLine ∧ Pv (i + 1) σ4 (upd H6 D (.lst (ys ++ [y]))) else Pv (i + 1) σ4 H5)
    (hd : ∀ σ2 H2, Pv n σ2 H2 → J.stop n H2 ∧ Q H2) :
    ∃ W : Nat → Nat → St → Hp → Prop, (∃ m, W 0 m σ (upd H D (.lst []))) ∧ ∀ i m σ2 H2, W i m σ2 H2 →
      (J.stop i H2 ∧ Q H2) ∨ (J.go i H2 ∧ ∃ N : St → Hp → Prop, (∀ σ' H', N σ' H' → ∃ m', m' < m ∧ W (i + 1) m' σ' H') ∧ ∀ x H3, J.yld i H2 x H3 → g x σ2 H3 fun σ4 H4 => tt σ4 H4 fun b H5 =>
        if b = true then te σ4 H5 fun y H6 => ∃ ys, H6 D = some (.lst ys) ∧ ys.length < sizeLine ∧ N σ4 (upd H6 D (.lst (ys ++ [y]))) else N σ4 H5) := by
  refine ⟨fun i m σ H => m = n - i ∧ i ≤ n ∧ Pv i σ H, ⟨n, by simp, Nat.zero_le _, h0⟩, ?_⟩
  rintro i m σ2 H2 ⟨rfl, hi, p⟩
  by_cases hlt : i < n
  · obtain ⟨h1, h2⟩ := hs i σ2 H2 hlt p
    exact .inr ⟨h1, Pv (i + 1), fun σ' H' p' => ⟨n - (i + 1), by omega, rfl, hlt, p'⟩, h2⟩
  · have e : i = n := by omega
    subst e
    exact .inl (hd σ2 H2 p)
section
variable {X : Cx} {tg elt iter : Expr} {ifs : List Expr} {sc : Scope} {pos : Pos} {M : List Str} {ρ : List (Option Nat)} {wi : TI} {g : TG} {tt : TT} {te : TE}
theorem comp_block (osc : Scope) (hosc : X.env.scope = osc) (N : List Str) (hN : X.N = N) (S : CompScope osc N sc M ρ) (hc : X.calm = true)
    (hg : ∀ cl C s H fp xe, PG (cxComp X sc cl C M s H fp xe) tg g) (ht : ∀ cl C s H fp xe, PTs (cxComp X sc cl C M s H fp xe) ifs tt) (he : ∀ cl C s H fp xe, PE (cxComp X sc cl C M s H fp xe) elt te)
    {pins : List (Addr × Obj)} {σ : St} {H : Hp} {s : Shared} {itv : Value} {Q : VK} {RR : Value → Addr → Result → Shared → Prop} (I : Inv X pins σ H s)
    (h2 : PIE X pins σ tg (fun J H1 => ∀ D, H1 D = none → ∃ W : Nat → Nat → St → Hp → Prop, (∃ m, W 0 m (subS ρ σ) (upd H1 D (.lst []))) ∧ ∀ i m σ2 H2, W i m σ2 H2 →
      (J.stop i H2 ∧ Q (.ref D) H2) ∨ (J.go i H2 ∧ ∃ N : St → Hp → Prop, (∀ σ' H', N σ' H' → ∃ m', m' < m ∧ W (i + 1) m' σ' H') ∧ ∀ x H3, J.yld i H2 x H3 → g x σ2 H3 fun σ4 H4 => tt σ4 H4 fun b H5 =>
        if b = true then te σ4 H5 fun y H6 => ∃ ys, H6 D = some (.lst ys) ∧ ys.length < sizeLine ∧ N σ4 (upd H6 D (.lst (ys ++ [y])))
        else N σ4 H5)) itv s)
    (hR : ∀ (D C : Addr) (H' : Hp) (s' : Shared) (mC : Str → Option Value), Inv X pins σ H' s' → s'.heap.Ns C mC → FpOk X pins H' C → Q (.ref D) H' → RR (.ref D) C (.ok .next) s') :
    wpAny (model X.prog X.w) X.A (newList []) (fun acc s3 => wpAny (model X.prog X.w) X.A (newFunctionEnv sc X.env.globals (closL X.env.cells sc.names []) [] X.env.qual none .none (some X.env)) (fun cenv s4 =>
      codeAny (model X.prog X.w) X.A (.compStart (.ListComp elt [⟨tg, iter, ifs, 0⟩] sc pos) 0 itv acc { cenv with scope := relabel sc X.env }) (RR acc cenv.locals) s4) X.xe s3) X.xe s := by
  subst hosc hN
  obtain ⟨it, fp, tn, J, H2, rfl, I2, T, st2, f2, q2⟩ := h2
  have hcells : ∀ y ∈ sc.names, y.2 = .free → ∃ c, X.env.cells.lookup y.1 = some c := fun y hy hf => I2.ok.has y.1 (S.fre y hy hf)
  have hclx : ∀ {x c}, (closL X.env.cells sc.names []).lookup x = some c → X.env.cells.lookup x = some c := fun {x c} e => (closL_lookup _ _ hcells e).elim id fun z => by simp at z
  generalize hcl : closL X.env.cells sc.names [] = cl at hclx ⊢
  refine wpAny_newObj_type (wpAny_newFunctionEnv S.nocell (by intro y hy; simp at hy) (fun h1 hns hsb => ?_) S.kind)
  dsimp only at hns hsb ⊢
  generalize hG : s.heap.push { cls := .type "list", dict := none, data := .seq ([] : List Value).toArray } = G at hns hsb ⊢
  have hC : G.objs.size = s.heap.objs.size + 1 := by rw [← hG, Heap.size_push]
  have old : ∀ b o, s.heap.get? b = some o → h1.get? b = some o := fun b o e =>
    hsb.extBut b o (Nat.ne_of_lt (by rw [hC]; exact Nat.lt_succ_of_lt (Heap.lt_size e))) (Heap.get?_push_of_some _ (hG ▸ Heap.get?_push_of_some _ e))
  have hD1 : h1.get? s.heap.objs.size = some { cls := .type "list", dict := none, data := .seq ([] : List Value).toArray } :=
    hsb.extBut _ _ (by rw [hC]; exact Nat.ne_of_lt (Nat.lt_succ_self _)) (Heap.get?_push_of_some _ (hG ▸ Heap.get?_push_size _ rfl))
  have hDn : H2 s.heap.objs.size = none := I2.hok.fresh (Nat.le_refl _)
  obtain ⟨W, ⟨m0, w0⟩, turn⟩ := q2 s.heap.objs.size hDn
  have hCle : s.heap.objs.size ≤ G.objs.size := by rw [hC]; exact Nat.le_succ _
  have hCD : G.objs.size ≠ s.heap.objs.size := by rw [hC]; exact Nat.succ_ne_self _
  generalize hxe : notedBy (model X.prog X.w) X.A (compEnvC sc cl G.objs.size X.env) (fun e s' => RR (.ref s.heap.objs.size) G.objs.size (.error e) s') = xe
  have fpC : ∀ b ∈ fp, b ≠ G.objs.size := fun b hb => by
    obtain ⟨o, e, _⟩ := T.obj 0 _ st2 b hb
    have := Heap.lt_size e
    exact Nat.ne_of_lt (Nat.lt_of_lt_of_le this hCle)
  have fpS : ∀ b ∈ fp, b ∉ frs X.stack := fun b hb z => by
    obtain ⟨f0, f1, f3, _⟩ := f2 b hb
    rcases List.mem_cons.mp (I2.stkSub b z) with e | e
    · exact f1 e
    · exact f3 e
  have hok : (cxComp X sc cl G.objs.size M s H2 fp xe).Ok := by
    refine ⟨I2.ok.mod, S.kind, I2.ok.glob, I2.ok.blt, hCle, fun x y c e1 e2 => I2.ok.inj x y c (hclx e1) (hclx e2), fun x hx => ?_, (fun x c e _ => absurd (show false = true from e) Bool.false_ne_true), I2.ok.hd, I2.ok.frames, .inl rfl, fun b hb => ⟨fpC b hb, fun x c e => (f2 b hb).2.2.2.2.1 x c (hclx e)⟩,
      I2.bs, Nat.le_trans I2.ok.bsz I2.sz, fun b o e hb => ?_, fpS, I2.stack, I2.stkFree⟩
    · rcases relabel_back (names := sc.names) (env := X.env) hx with q | q
      · rw [← hcl]; exact closL_has _ _ q
      · exact absurd rfl (S.nocell _ q)
    · rcases (f2 b hb).2.2.2.1 with z | z
      · exact I2.ok.noex b o e z
      · exact absurd (Nat.lt_of_lt_of_le (Heap.lt_size e) (Nat.le_trans I2.ok.bsz z)) (Nat.lt_irrefl _)
  have I4 : Inv (cxComp X sc cl G.objs.size M s H2 fp xe) [] (subS ρ σ) (upd H2 s.heap.objs.size (.lst [])) { s with heap := h1, toks := s.toks + ([] : List (Str × Value)).length } := by
    refine ⟨hok, rfl, I2.bare, Un.laid old (Nat.le_refl _) hDn, ⟨_, hns, fun j x v e1 e2 _ => ?_⟩, fun x c e => ?_, ?_, fun x c e => ?_, fun p hp => absurd (show p ∈ ([] : List (Addr × Obj)) from hp) (by simp), I2.hok.laid old (Nat.le_refl _) ⟨by show 0 ≤ sizeLine; decide, [], 0, .nil, hD1⟩, ?_⟩
    · unfold subS at e2
      rw [List.getElem?_map] at e2
      cases q : ρ[j]? with
      | none => rw [q] at e2; cases e2
      | some o =>
        rw [q] at e2
        cases o with
        | none => cases e2
        | some i =>
          have e2' : (σ[i]?).join = some v := Option.some.inj e2
          have e3 : σ[i]? = some (some v) := by
            cases z : σ[i]? with
            | none => rw [z] at e2'; cases e2'
            | some y => rw [z] at e2'; cases y with
              | none => cases e2'
              | some y => cases e2'; rfl
          have hz : (ρ.zip M)[j]? = some (some i, x) := List.getElem?_zip_eq_some.mpr ⟨q, e1⟩
          have hr := S.ren (some i, x) (List.mem_of_getElem? hz)
          obtain ⟨r1, r2⟩ := of_decide_eq_true hr
          obtain ⟨m, hn, hl⟩ := I2.loc
          have hfr := S.fre _ (PySem.mem_of_lookup r2) rfl
          obtain ⟨u, ru, lk⟩ := hl i x v r1 e3 (hfr.elim (fun z => .inr (.inl z)) fun z => .inr (.inr z))
          refine ⟨u, ru, ?_⟩
          rcases lk with ⟨k, _⟩ | ⟨_, c, hcc, cell⟩
          · have k' : X.env.scope.names.lookup x = some .local := k
            rcases hfr with z | z
            · rw [k'] at z; cases z
            · rw [k'] at z; cases z
          · obtain ⟨c', hc'⟩ := closL_has (cells := X.env.cells) sc.names [] (PySem.mem_of_lookup r2)
            rw [hcl] at hc'
            have := hclx hc'
            rw [hcc] at this
            cases this
            obtain ⟨oc, ho, hd⟩ := cell
            exact .inr ⟨relabel_free r2, _, hc', oc, old _ _ ho, hd⟩
    · obtain ⟨v, oc, ho, hd⟩ := I2.cell x c (hclx e)
      exact ⟨v, oc, old _ _ ho, hd⟩
    · show upd H2 s.heap.objs.size (.lst []) G.objs.size = none
      rw [upd_ne hCD]
      exact I2.hok.fresh hCle
    · show upd H2 s.heap.objs.size (.lst []) c = none
      obtain ⟨v, oc, ho, hd⟩ := I2.cell x c (hclx e)
      rw [upd_ne (Nat.ne_of_lt (Heap.lt_size ho))]
      exact I2.freeC x c (hclx e)
    · show (subS ρ σ).length = M.length
      unfold subS
      rw [List.length_map, S.len]
  have st4 : tn 0 h1 := T.keep 0 _ _ st2 fun b _ o e => old b o e
  have fr4 : ∀ b ∈ fp, upd H2 s.heap.objs.size (.lst []) b = none := fun b hb => by
    obtain ⟨o, e, _⟩ := T.obj 0 _ st2 b hb
    rw [upd_ne (Nat.ne_of_lt (Heap.lt_size e))]
    exact (f2 b hb).1
  have stat : ∀ {H' : Hp}, (∀ b ∈ fp, H' b = none) → ∀ b ∈ fp, FpOk (cxComp X sc cl G.objs.size M s H2 fp xe) [] H' b := fun hn b hb =>
    ⟨hn b hb, fpC b hb, fpS b hb, .inl hb, fun x c e => (f2 b hb).2.2.2.2.1 x c (hclx e), fun p hp => absurd (show p ∈ ([] : List (Addr × Obj)) from hp) (by simp)⟩
  have loop : codeAny (model X.prog X.w) X.A (.compLoop (.ListComp elt [⟨tg, iter, ifs, 0⟩] sc pos) 0 (.ref it) (.ref s.heap.objs.size) (compEnvC sc cl G.objs.size X.env)) (RR (.ref s.heap.objs.size) G.objs.size)
      { s with heap := h1, toks := s.toks + ([] : List (Str × Value)).length } := by
    refine comp_loop (fun n s' => ∃ i σ' H', Inv (cxComp X sc cl G.objs.size M s H2 fp xe) [] σ' H' s' ∧ tn i s'.heap ∧ (∀ b ∈ fp, H' b = none) ∧ W i n σ' H') ?_ m0 ⟨0, _, _, I4, st4, fr4, w0⟩
    rw [hxe]
    rintro n s3 ⟨i, σ3, H3, I3, st3, fr3, w3⟩
    rcases turn i n σ3 H3 w3 with ⟨stop, qn⟩ | ⟨go, N, hN, step⟩
    · refine thn (T.done (cxComp X sc cl G.objs.size M s H2 fp xe) rfl rfl rfl hc i [] s3 σ3 H3 xe I3 (stat fr3) st3 stop) fun r s4 hpat => ?_
      obtain ⟨hr, I5⟩ := hpat
      subst hr
      obtain ⟨mC, nC, _⟩ := I5.loc
      have I6 : Inv X pins σ H3 s4 := I2.call' I5.os I5.base I5.hok I5.bare fun b hb => ⟨(f2 b hb).2.2.2.1, (f2 b hb).2.1, (f2 b hb).2.2.2.2.1, (f2 b hb).2.2.2.2.2⟩
      exact hR _ _ H3 s4 mC I6 nC (I2.fpOk hCle I5.free) qn
    · refine thn (T.item (cxComp X sc cl G.objs.size M s H2 fp xe) rfl rfl rfl hc i [] s3 σ3 H3 xe I3 (stat fr3) st3 go) fun r s4 hpat => ?_
      obtain ⟨u, hr, h4⟩ := hpat
      subst hr
      refine thn h4 fun _ s5 hpat => ?_
      obtain ⟨x, H5, I5, r5, y5, st5, fr5⟩ := hpat
      have I5' := I5.pinned (stat fr5) (T.obj _ _ st5)
      refine thn (hg cl G.objs.size s H2 fp xe _ s5 σ3 H5 x u _ I5' r5 (step x H5 y5)) fun _ s6 hpat => ?_
      obtain ⟨σ6, H6, I6, q6⟩ := hpat
      have fin : ∀ {s7 : Shared} {σ7 : St} {H7 : Hp}, Inv (cxComp X sc cl G.objs.size M s H2 fp xe) ([] ++ pinsAt fp s5.heap) σ7 H7 s7 → (∃ m', m' < n ∧ W (i + 1) m' σ7 H7) →
          ∃ m, m < n ∧ ∃ i σ' H', Inv (cxComp X sc cl G.objs.size M s H2 fp xe) [] σ' H' s7 ∧ tn i s7.heap ∧ (∀ b ∈ fp, H' b = none) ∧ W i m σ' H' := fun {s7 σ7 H7} I7 ⟨m', hm, w7⟩ => by
        refine ⟨m', hm, i + 1, σ7, H7, I7.unpinned, T.keep _ _ _ st5 fun b hb o e => (I7.pin (b, o) (List.mem_append_right _ (List.mem_append_right _ (mem_pinsAt hb e)))).1, fun b hb => ?_, w7⟩
        obtain ⟨o, e, d⟩ := T.obj _ _ st5 b hb
        exact (I7.pin (b, o) (List.mem_append_right _ (List.mem_append_right _ (mem_pinsAt hb e)))).2.1
      refine thn (ht cl G.objs.size s H2 fp xe _ s6 σ6 H6 _ I6 q6) fun ok s7 hpat => ?_
      obtain ⟨H7, I7, q7⟩ := hpat
      cases ok with
      | false =>
        rw [if_neg Bool.false_ne_true] at q7 ⊢
        exact fin I7 (hN _ _ q7)
      | true =>
        rw [if_pos rfl] at q7 ⊢
        refine thn (he cl G.objs.size s H2 fp xe _ s7 σ6 H7 _ I7 q7) fun y s8 hpat => ?_
        obtain ⟨yv, H8, I8, r8, ys, hys, hlt, q8⟩ := hpat
        obtain ⟨z, its, k, rv, hl, e⟩ := I8.lstM hys
        refine call_meets F.slot_list_append ⟨_, e, rfl⟩ F.entry_list_append (F.args_list_append_2 _ _) (PySem.list_append _ its.toArray k y (by rw [List.size_toArray]; omega)) ⟨e, ?_⟩
        exact fin (I8.lset (its' := its ++ [y]) hys e (by simp) (rv.append (.cons r8 .nil)) (by rw [List.length_append, List.length_singleton]; omega)) (hN _ _ q8)
  exact codeAny_compStart_list loop (T.self X.A 0 _ _ _ st4 loop)
theorem pe_comp (osc : Scope) (N : List Str) (S : CompScope osc N sc M ρ) (hi : PI X tg iter wi) (hg : ∀ cl C s H fp xe, PG (cxComp X sc cl C M s H fp xe) tg g) (ht : ∀ cl C s H fp xe, PTs (cxComp X sc cl C M s H fp xe) ifs tt)
    (he : ∀ cl C s H fp xe, PE (cxComp X sc cl C M s H fp xe) elt te) (hosc : X.env.scope = osc := by rfl) (hN : X.N = N := by rfl) (hc : X.calm = true := by rfl) (hs : ∀ x, foldedSetIterable iter X.env x = pure x := by intro _; rfl) :
    PE X (.ListComp elt [⟨tg, iter, ifs, 0⟩] sc pos) (tComp wi ρ g tt te) := by
  intro pins s σ H Q I h
  have hcells : ∀ y ∈ sc.names, y.2 = .free → ∃ c, X.env.cells.lookup y.1 = some c := fun y hy hf => I.ok.has y.1 (by show X.env.scope.names.lookup y.1 = _ ∨ X.env.scope.names.lookup y.1 = _; rw [hosc]; exact S.fre y hy hf)
  rw [eval_ListComp]
  refine wpAny_comprehension_free (M := model X.prog X.w) (A := X.A) (E := X.xe) (e := .ListComp elt [⟨tg, iter, ifs, 0⟩] sc pos) rfl hs (closure_pure hcells) S.kind S.own (thn (hi pins s σ H _ I h) fun v s1 h1 => thn h1 fun itv s2 h2 => ?_)
  obtain ⟨_, _, _, _, _, _, I2, _⟩ := id h2
  refine comp_block (RR := fun acc C => compPost (model X.prog X.w) X.A X.xe none (EP X pins σ Q) acc C) osc hosc N hN S hc hg ht he I2 h2 fun D C H' s' mC I' nC fC q => ?_
  refine ⟨mC, nC, fun h' sb => ?_⟩
  obtain ⟨f0, f1, _, f3, f4, f5⟩ := fC
  exact ⟨.ref D, H', I'.turned (t' := s'.toks) (fun b o hb e => (sb.2 b hb).trans e) f0 f1 f3 f4 f5, rfl, q⟩
theorem ps_setC {j : Nat} {x : Str} {px spos : Pos} (osc : Scope) (N : List Str) (S : CompScope osc N sc M ρ) (hNd : X.N.Nodup) (hj : X.N[j]? = some x) (hx : Loc X.env.scope x) (hi : PI X tg iter wi) (hg : ∀ cl C s H fp xe, PG (cxComp X sc cl C M s H fp xe) tg g)
    (ht : ∀ cl C s H fp xe, PTs (cxComp X sc cl C M s H fp xe) ifs tt) (he : ∀ cl C s H fp xe, PE (cxComp X sc cl C M s H fp xe) elt te)
    (hsw : swapsWith (.ListComp elt [⟨tg, iter, ifs, 0⟩] sc pos) (some (.Name x px)) spos.line X.env = pure true := by rfl) (hosc : X.env.scope = osc := by rfl) (hN : X.N = N := by rfl) (hc : X.calm = true := by rfl) (hs : ∀ x, foldedSetIterable iter X.env x = pure x := by intro _; rfl)
    (hf : X.fn x = true ∨ X.env.scope.names.lookup x = some .local := by first | exact .inl rfl | exact .inr rfl | assumption) :
    PS X (.Assign [.Name x px] (.ListComp elt [⟨tg, iter, ifs, 0⟩] sc pos) spos) (tAsg (tComp wi ρ g tt te) (gName j)) := by
  intro pins s σ H D I h
  have hcells : ∀ y ∈ sc.names, y.2 = .free → ∃ c, X.env.cells.lookup y.1 = some c := fun y hy hf => I.ok.has y.1 (by show X.env.scope.names.lookup y.1 = _ ∨ X.env.scope.names.lookup y.1 = _; rw [hosc]; exact S.fre y hy hf)
  rw [exec_Assign_Name_used _ _ _ _ hsw]
  refine wpAny_bind (wpAny_standAt (wpAny_bind ?_))
  show wpAny (model X.prog X.w) X.A (do let _ ← comprehension (.ListComp elt [⟨tg, iter, ifs, 0⟩] sc pos) sc X.env (firstIterPos [⟨tg, iter, ifs, 0⟩] pos) (newList []) false (eval iter X.env) (some (assign (.Name x px) X.env))) _ X.xe s
  refine wpAny_bind (thn (Q := fun _ s' => SP X pins D .next s') (wpAny_comprehension_free (M := model X.prog X.w) (A := X.A) (E := X.xe) (e := .ListComp elt [⟨tg, iter, ifs, 0⟩] sc pos) (use := some (assign (.Name x px) X.env)) rfl hs (closure_pure hcells) S.kind S.own
    (thn (hi pins s σ H _ I h) fun v s1 h1 => thn h1 fun itv s2 h2 => ?_)) fun _ s' hq => wpAny_pure (wpAny_pure hq))
  obtain ⟨_, _, _, _, _, _, I2, _⟩ := id h2
  refine comp_block (Q := fun v H' => gName j v σ H' D.nx) (RR := fun acc C => compPost (model X.prog X.w) X.A X.xe (some (assign (.Name x px) X.env)) (fun _ s' => SP X pins D .next s') acc C) osc hosc N hN S hc hg ht he I2 h2 fun D' C H' s' mC I' nC fC q => ?_
  show wpAny _ _ (assign (.Name x px) X.env (.ref D')) _ _ s'
  refine wpAny_assign_Name (store_ok2 I' hNd hj hx (v := .ref D') rfl (fun s3 I3 hpat => ?_) hf)
  obtain ⟨a, sb, ha⟩ := hpat
  have hCa : C ≠ a := by
    rcases ha with e | e
    · rw [e]; exact fC.2.1
    · exact fun z => fC.2.2.2.2.1 x a e z.symm
  refine ⟨mC, nC.sameBut sb hCa, fun h' sb2 => ?_⟩
  obtain ⟨f0, f1, _, f3, f4, f5⟩ := fC
  exact ⟨_, H', I3.turned (t' := s3.toks) (fun b o hb e => (sb2.2 b hb).trans e) f0 f1 f3 f4 f5, q⟩
end
end L2
set_option Elab.async false
set_option linter.all false
set_option maxRecDepth 100000
set_option maxHeartbeats 4000000
namespace L2
open PySem PySem.Spec PyProof.Rows
section
variable {X : Cx} {tg : Expr}
theorem pg_tupK {K : PySem.W.Frag} {pos : Pos} {es : List Expr} {k : Nat} {t : TGs} {n : Nat} (hK : X.K = K) (hc : X.calm = true) (h : PGs X es t) (hn : (assignEach es X.env).length = n := by rfl) (hst : (assignEach es X.env).findIdx? (·.1) = none := by rfl) : PG X (.Tuple es k pos) (gTup K n t) := hK ▸ pg_tup hc h hn hst
end
end L2
set_option Elab.async false
set_option linter.all false
set_option maxRecDepth 100000
set_option maxHeartbeats 4000000
namespace L2
open PySem PySem.Spec PyProof.Rows
noncomputable def PairAt (H : Hp) (v : V) (d : Str × Str) : Prop := ∃ p, v = .ref p ∧ H p = some (.tup [.str d.1, .str d.2]) ∧ NameOk d.1 ∧ NameOk d.2
noncomputable abbrev Pairs (H : Hp) : List V → List (Str × Str) → Prop := Paired (PairAt H)
theorem PairAt.mono {H H' : Hp} (s : Tups H H') {v : V} {t : Str × Str} (h : PairAt H v t) : PairAt H' v t := by
  obtain ⟨p, e, h, o⟩ := h
  exact ⟨p, e, s p _ h, o⟩
theorem Pairs.mono {H H' : Hp} (s : Tups H H') {vs : List V} {ts : List (Str × Str)} (h : Pairs H vs ts) : Pairs H' vs ts := Paired.mapP h fun _ _ q => q.mono s
set_option genInjectivity false in
structure PairsAt (H : Hp) (t : Addr) (ps : List (Str × Str)) : Prop where
  ex : ∃ vs, H t = some (.tup vs) ∧ Pairs H vs ps
  hi : ps.length ≤ 6
theorem PairsAt.mono {H H' : Hp} (s : Tups H H') {t : Addr} {ts : List (Str × Str)} (h : PairsAt H t ts) : PairsAt H' t ts := by
  obtain ⟨⟨vs, h1, h2⟩, hi⟩ := h
  exact ⟨⟨vs, s t _ h1, h2.mono s⟩, hi⟩
noncomputable def optV : Option Str → V
  | none => .non
  | some x => .str x
inductive Rw where
  | bring (p : Str) (ps : List (Str × Str))
  | give (o g : Str)
  | set (o : Str) (ts : List (Int × Th))
  | take (o : Str)
  | say (ts : List (Int × Th)) (w : Option Str)
  | need (ts : List (Int × Th))
  | ask (p : Str) (w : Option Str)
  | part (p : Str)
  | doo (p : Str)
noncomputable def RowAt (H : Hp) (r : Addr) : Rw → Prop
  | .bring p ps => ∃ t, H r = some (.tup [.str "bring", .str p, .ref t]) ∧ PairsAt H t ps
  | .give o g => H r = some (.tup [.str "give", .str o, .str g])
  | .set o ts => ∃ t, H r = some (.tup [.str "set", .str o, .ref t]) ∧ TermsAt H t ts
  | .take o => H r = some (.tup [.str "take", .str o])
  | .say ts w => ∃ t, H r = some (.tup [.str "say", .ref t, optV w]) ∧ TermsAt H t ts
  | .need ts => ∃ t, H r = some (.tup [.str "need", .ref t]) ∧ TermsAt H t ts
  | .ask p w => H r = some (.tup [.str "ask", .str p, optV w])
  | .part p => H r = some (.tup [.str "part", .str p])
  | .doo p => H r = some (.tup [.str "do", .str p])
theorem RowAt.mono {H H' : Hp} (s : Tups H H') {r : Addr} {rw : Rw} (h : RowAt H r rw) : RowAt H' r rw := by
  cases rw with
  | bring p ps => obtain ⟨t, h1, h2⟩ := h; exact ⟨t, s _ _ h1, h2.mono s⟩
  | give o g => exact s _ _ h
  | set o ts => obtain ⟨t, h1, h2⟩ := h; exact ⟨t, s _ _ h1, h2.mono s⟩
  | take o => exact s _ _ h
  | say ts w => obtain ⟨t, h1, h2⟩ := h; exact ⟨t, s _ _ h1, h2.mono s⟩
  | need ts => obtain ⟨t, h1, h2⟩ := h; exact ⟨t, s _ _ h1, h2.mono s⟩
  | ask p w => exact s _ _ h
  | part p => exact s _ _ h
  | doo p => exact s _ _ h
end L2
set_option Elab.async false
set_option linter.all false
set_option maxRecDepth 100000
set_option maxHeartbeats 4000000
namespace L2
open PySem PySem.Spec PyProof.Rows
section
variable {X : Cx} {elts : List Expr} {k : Nat} {tpos : Pos}
end
end L2
set_option Elab.async false
set_option linter.all false
set_option maxRecDepth 100000
set_option maxHeartbeats 4000000
namespace L2
open PySem PySem.Spec PyProof.Rows
noncomputable abbrev Pt := Str × List Rw
noncomputable def RowV (H : Hp) (v : V) (rw : Rw) : Prop := ∃ r, v = .ref r ∧ RowAt H r rw
noncomputable abbrev RowsAt (H : Hp) : List V → List Rw → Prop := Paired (RowV H)
theorem RowsAt.mono {H H' : Hp} (s : Tups H H') {vs : List V} {rs : List Rw} (h : RowsAt H vs rs) : RowsAt H' vs rs := Paired.mapP h fun _ _ ⟨r, e, q⟩ => ⟨r, e, q.mono s⟩
noncomputable def PartAt (H : Hp) (v : V) (p : Pt) : Prop := ∃ t u vs, v = .ref t ∧ H t = some (.tup [.str p.1, .ref u]) ∧ H u = some (.tup vs) ∧ RowsAt H vs p.2
theorem PartAt.mono {H H' : Hp} (s : Tups H H') {v : V} {p : Pt} (h : PartAt H v p) : PartAt H' v p := by
  obtain ⟨t, u, vs, e, h1, h2, h3⟩ := h
  exact ⟨t, u, vs, e, s _ _ h1, s _ _ h2, h3.mono s⟩
end L2
set_option Elab.async false
set_option linter.all false
set_option maxRecDepth 100000
set_option maxHeartbeats 4000000
namespace L2
open PySem PySem.Spec PyProof.Rows
section
variable {κ : Type} [DecidableEq κ]
noncomputable def valV (kvs : List (κ × V)) (k : κ) : Option V := (kvs.find? fun kv => decide (kv.1 = k)).map (·.2)
noncomputable def putK (kvs : List (κ × V)) (k : κ) (v : V) : List (κ × V) :=
  if (kvs.any fun kv => decide (kv.1 = k)) = true then kvs.map (fun kv => if kv.1 = k then (kv.1, v) else kv) else kvs ++ [(k, v)]
theorem valV_pos {p : κ × V} {r : List (κ × V)} {k : κ} (e : p.1 = k) : valV (p :: r) k = some p.2 := by simp [valV, List.find?_cons, e]
theorem valV_neg {p : κ × V} {r : List (κ × V)} {k : κ} (e : ¬ p.1 = k) : valV (p :: r) k = valV r k := by simp [valV, List.find?_cons, e]
theorem valV_any (k : κ) : ∀ kvs : List (κ × V), (kvs.any fun kv => decide (kv.1 = k)) = (valV kvs k).isSome
  | [] => rfl
  | p :: r => by
    rw [List.any_cons]
    by_cases e : p.1 = k
    · simp only [valV_pos e, decide_eq_true e, Bool.true_or, Option.isSome_some]
    · rw [valV_neg e, decide_eq_false e, Bool.false_or]; exact valV_any k r
theorem valV_map (k j : κ) (y : V) : ∀ kvs : List (κ × V), valV (kvs.map fun kv => if kv.1 = k then (kv.1, y) else kv) j = (valV kvs j).map fun x => if j = k then y else x
  | [] => rfl
  | p :: r => by
    have ih := valV_map k j y r
    rw [List.map_cons]
    by_cases h : p.1 = k
    · rw [if_pos h]
      by_cases e : p.1 = j
      · rw [valV_pos (p := (p.1, y)) e, valV_pos e, Option.map_some, if_pos (e.symm.trans h)]
      · rw [valV_neg (p := (p.1, y)) e, valV_neg e, ih]
    · rw [if_neg h]
      by_cases e : p.1 = j
      · rw [valV_pos (p := p) e, valV_pos e, Option.map_some, if_neg (fun z => h (e.trans z))]
      · rw [valV_neg (p := p) e, valV_neg e, ih]
theorem valV_snoc (k j : κ) (y : V) : ∀ kvs : List (κ × V), valV kvs k = none → valV (kvs ++ [(k, y)]) j = if j = k then some y else valV kvs j
  | [], _ => by
    by_cases e : k = j
    · rw [if_pos e.symm]; exact valV_pos (p := (k, y)) e
    · rw [if_neg (fun z => e z.symm)]; exact valV_neg (p := (k, y)) e
  | p :: r, hn => by
    rw [List.cons_append]
    have hk : ¬ p.1 = k := fun z => by rw [valV_pos z] at hn; cases hn
    rw [valV_neg hk] at hn
    have ih := valV_snoc k j y r hn
    by_cases e : p.1 = j
    · rw [valV_pos e, valV_pos e, if_neg (fun z => hk (e.trans z))]
    · rw [valV_neg e, valV_neg e, ih]
theorem valV_put (kvs : List (κ × V)) (k j : κ) (y : V) : valV (putK kvs k y) j = if j = k then some y else valV kvs j := by
  unfold putK
  by_cases a : (kvs.any fun kv => decide (kv.1 = k)) = true
  · rw [if_pos a, valV_map]
    rw [valV_any] at a
    by_cases e : j = k
    · obtain ⟨x, hx⟩ := Option.isSome_iff_exists.mp a
      rw [if_pos e, e, hx, Option.map_some, if_pos rfl]
    · rw [if_neg e]
      cases valV kvs j with
      | none => rfl
      | some x => rw [Option.map_some, if_neg e]
  · rw [if_neg a]
    refine valV_snoc k j y kvs ?_
    rw [valV_any] at a
    cases q : valV kvs k with
    | none => rfl
    | some x => rw [q] at a; exact (a rfl).elim
theorem length_putK (kvs : List (κ × V)) (k : κ) (v : V) : (putK kvs k v).length ≤ kvs.length + 1 := by
  unfold putK
  split
  · rw [List.length_map]; omega
  · rw [List.length_append, List.length_cons, List.length_nil]; omega
theorem RelO.isSome_eq {o : Option V} {u : Option Value} (r : RelO o u) : o.isSome = u.isSome := by
  cases o with
  | none => cases u with
    | none => rfl
    | some _ => exact (show False from r).elim
  | some _ => cases u with
    | none => exact (show False from r).elim
    | some _ => rfl
theorem KV.val {kvs : List (κ × V)} {vs : List (κ × Value)} (r : KV kvs vs) (k : κ) : RelO (valV kvs k) (valueAt vs k) := by
  unfold KV at r
  induction r with
  | nil => exact True.intro
  | @cons p q ps qs h t ih =>
    obtain ⟨h1, h2⟩ := h
    by_cases e : p.1 = k
    · have e' : q.1 = k := h1.symm.trans e
      have b : valueAt (q :: qs) k = some q.2 := by simp [valueAt, List.find?_cons, e']
      rw [valV_pos e, b]; exact h2
    · have e' : ¬ q.1 = k := fun z => e (h1.trans z)
      have b : valueAt (q :: qs) k = valueAt qs k := by simp [valueAt, List.find?_cons, e']
      rw [valV_neg e, b]; exact ih
theorem KV.any {kvs : List (κ × V)} {vs : List (κ × Value)} (r : KV kvs vs) (k : κ) : (kvs.any fun kv => decide (kv.1 = k)) = vs.any fun kv => decide (kv.1 = k) := by
  unfold KV at r
  induction r with
  | nil => rfl
  | cons h t ih => rw [List.any_cons, List.any_cons, ih, h.1]
theorem KV.repl {kvs : List (κ × V)} {vs : List (κ × Value)} (r : KV kvs vs) (k : κ) {y : V} {u : Value} (ry : RelV y u) :
    KV (kvs.map fun kv => if kv.1 = k then (kv.1, y) else kv) (vs.map fun kv => if kv.1 = k then (kv.1, u) else kv) := by
  unfold KV at r ⊢
  induction r with
  | nil => exact .nil
  | @cons p q ps qs h t ih =>
    rw [List.map_cons, List.map_cons]
    refine .cons ?_ ih
    obtain ⟨h1, h2⟩ := h
    by_cases e : p.1 = k
    · rw [if_pos e, if_pos (h1.symm.trans e)]; exact ⟨h1, ry⟩
    · rw [if_neg e, if_neg (fun z => e (h1.trans z))]; exact ⟨h1, h2⟩
theorem KV.put {kvs : List (κ × V)} {vs : List (κ × Value)} (r : KV kvs vs) (k : κ) {y : V} {u : Value} (ry : RelV y u) : KV (putK kvs k y) (stored vs k u) := by
  unfold putK stored
  rw [r.any k]
  by_cases e : (vs.any fun kv => decide (kv.1 = k)) = true
  · rw [if_pos e, if_pos e]; exact r.repl k ry
  · rw [if_neg e, if_neg e]; exact Paired.snoc r ⟨rfl, ry⟩
theorem KV.length {kvs : List (κ × V)} {vs : List (κ × Value)} (r : KV kvs vs) : kvs.length = vs.length := Paired.length r
end
theorem kV_is {P : Program} {w : World} {k : Key} {u : Value} (r : RelV (kV k) u) : (mixKind P w).is k u = true := by
  cases k with
  | inl i => obtain ⟨t, e⟩ := (show ∃ t, u = Value.int i t from r); subst e; exact mixKind_int P w i t
  | inr x => obtain ⟨t, e⟩ := (show ∃ t, u = Value.str x t from r); subst e; exact mixKind_str P w x t
theorem items_are {P : Program} {w : World} : ∀ {ks : List Key} {us : List Value}, Vals (ks.map kV) us → ItemsAre (mixKind P w) ks us
  | [], _, r => by rw [List.map_nil] at r; cases r; exact .nil
  | k :: ks, _, r => by
    rw [List.map_cons] at r
    cases r with
    | cons h t => exact .cons (kV_is h) (items_are t)
noncomputable abbrev KT (H : Hp) : List (List Key × V) → List (List Key × Addr × Value) → Prop := Paired fun p q => p.1 = q.1 ∧ H q.2.1 = some (.tup (p.1.map kV)) ∧ RelV p.2 q.2.2
theorem KT.val {H : Hp} {kvs : List (List Key × V)} {xs : List (List Key × Addr × Value)} (r : KT H kvs xs) (k : List Key) : RelO (valV kvs k) ((atKey xs k).map (·.2)) := by
  induction r with
  | nil => exact True.intro
  | @cons p q ps qs h t ih =>
    obtain ⟨h1, _, h2⟩ := h
    by_cases e : p.1 = k
    · have e' : q.1 = k := h1.symm.trans e
      have b : atKey (q :: qs) k = some q.2 := by simp [atKey, List.find?_cons, e']
      rw [valV_pos e, b]; exact h2
    · have e' : ¬ q.1 = k := fun z => e (h1.trans z)
      have b : atKey (q :: qs) k = atKey qs k := by simp [atKey, List.find?_cons, e']
      rw [valV_neg e, b]; exact ih
theorem KT.repl {H : Hp} {kvs : List (List Key × V)} {xs : List (List Key × Addr × Value)} (r : KT H kvs xs) (k : List Key) {y : V} {u : Value} (ry : RelV y u) :
    KT H (kvs.map fun kv => if kv.1 = k then (kv.1, y) else kv) (xs.map (putAt k u)) := by
  induction r with
  | nil => exact .nil
  | @cons p q ps qs h t ih =>
    rw [List.map_cons, List.map_cons]
    refine .cons ?_ ih
    obtain ⟨h1, h2, h3⟩ := h
    unfold putAt
    by_cases e : p.1 = k
    · rw [if_pos e, if_pos (h1.symm.trans e)]; exact ⟨h1, h2, ry⟩
    · rw [if_neg e, if_neg (fun z => e (h1.trans z))]; exact ⟨h1, h2, h3⟩
theorem KT.put {H : Hp} {kvs : List (List Key × V)} {xs : List (List Key × Addr × Value)} (r : KT H kvs xs) (k : List Key) {b : Addr} {y : V} {u : Value} (hb : H b = some (.tup (k.map kV))) (ry : RelV y u) :
    KT H (putK kvs k y) (storedH xs k b u) := by
  have e : (kvs.any fun kv => decide (kv.1 = k)) = (atKey xs k).isSome := by
    rw [valV_any, (r.val k).isSome_eq, Option.isSome_map]
  unfold putK storedH
  rw [e]
  by_cases q : (atKey xs k).isSome = true
  · rw [if_pos q, if_pos q]; exact r.repl k ry
  · rw [if_neg q, if_neg q]; exact Paired.snoc r ⟨rfl, hb, ry⟩
theorem KT.keeps {H H' : Hp} {kvs : List (List Key × V)} {xs : List (List Key × Addr × Value)} (r : KT H kvs xs) (ht : ∀ b ys, H b = some (.tup ys) → H' b = some (.tup ys)) : KT H' kvs xs :=
  Paired.mapP r fun _ _ z => ⟨z.1, ht _ _ z.2.1, z.2.2⟩
section
variable {P : Program} {w : World} {H : Hp} {h : Heap} {a : Addr}
theorem rd_of {u : HO} (ok : HOk P w H h) (e : Rd H a u) : ObjOk P w H h a u := e.ok ok
theorem dk_rd {kvs : List (Key × V)} (ok : HOk P w H h) (e : Rd H a (.dK kvs)) : kvs.length ≤ sizeLine ∧ (a == sysModules) = false ∧ ∃ vs, KV kvs vs ∧ h.DictOf (mixKind P w) a vs :=
  show ObjOk P w H h a (.dK kvs) from rd_of ok e
theorem dk_of {kvs : List (Key × V)} (ok : HOk P w H h) (e : H a = some (.dK kvs)) : kvs.length ≤ sizeLine ∧ (a == sysModules) = false ∧ ∃ vs, KV kvs vs ∧ h.DictOf (mixKind P w) a vs := dk_rd ok (.inl e)
theorem key_of {ks : List Key} (ok : HOk P w H h) (e : H a = some (.tup (ks.map kV))) : (tupleKind (mixKind P w)).is h ks a := by
  obtain ⟨_, its, r, o, h1, h2, n, h3⟩ := (show ObjOk P w H h a (.tup (ks.map kV)) from ok a _ e)
  exact ⟨o, its.toArray, n, h1, h2, h3, by simpa using items_are r⟩
theorem dt_rd {kvs : List (List Key × V)} (ok : HOk P w H h) (e : Rd H a (.dT kvs)) : kvs.length ≤ sizeLine ∧ (a == sysModules) = false ∧
    ∃ xs, KT H kvs xs ∧ h.DictOfH (tupleKind (mixKind P w)) a xs := by
  obtain ⟨z, y, xs, r, o, es, ep, h1, h2, h3, h4, h5⟩ := (show ObjOk P w H h a (.dT kvs) from rd_of ok e)
  refine ⟨z, y, xs, r, o, es, ep, h1, h2, h3, h4, fun x hx => ?_, h5⟩
  have all : ∀ {l : List (List Key × V)} {m : List (List Key × Addr × Value)}, KT H l m → ∀ x ∈ m, (tupleKind (mixKind P w)).is h x.1 x.2.1 := by
    intro l m q
    induction q with
    | nil => intro x hx; exact nomatch hx
    | @cons p q ps qs hq t ih =>
      intro x hx
      rcases List.mem_cons.mp hx with e | hx
      · subst e
        exact key_of ok (by rw [← hq.1]; exact hq.2.1)
      · exact ih x hx
  exact all r x hx
theorem dt_of {kvs : List (List Key × V)} (ok : HOk P w H h) (e : H a = some (.dT kvs)) : kvs.length ≤ sizeLine ∧ (a == sysModules) = false ∧
    ∃ xs, KT H kvs xs ∧ h.DictOfH (tupleKind (mixKind P w)) a xs := dt_rd ok (.inl e)
end
noncomputable def DGet (H : Hp) (a : Addr) (y : V) (r : Option V) : Prop :=
  (∃ kvs k, Rd H a (.dK kvs) ∧ y = kV k ∧ r = valV kvs k) ∨ ∃ kvs k b, Rd H a (.dT kvs) ∧ y = .ref b ∧ H b = some (.tup (k.map kV)) ∧ r = valV kvs k
noncomputable def DPut (H : Hp) (a : Addr) (y v : V) (H' : Hp) : Prop :=
  (∃ kvs k, H a = some (.dK kvs) ∧ y = kV k ∧ kvs.length < sizeLine ∧ H' = upd H a (.dK (putK kvs k v))) ∨
  ∃ kvs k b, H a = some (.dT kvs) ∧ y = .ref b ∧ H b = some (.tup (k.map kV)) ∧ kvs.length < sizeLine ∧ H' = upd H a (.dT (putK kvs k v))
theorem DGet.k {H : Hp} {a : Addr} {kvs : List (Key × V)} {k : Key} (e : H a = some (.dK kvs)) : DGet H a (kV k) (valV kvs k) := .inl ⟨kvs, k, .inl e, rfl, rfl⟩
theorem DGet.t {H : Hp} {a b : Addr} {kvs : List (List Key × V)} {k : List Key} (e : H a = some (.dT kvs)) (eb : H b = some (.tup (k.map kV))) : DGet H a (.ref b) (valV kvs k) := .inr ⟨kvs, k, b, .inl e, rfl, eb, rfl⟩
theorem DPut.k {H : Hp} {a : Addr} {kvs : List (Key × V)} {k : Key} {v : V} (e : H a = some (.dK kvs)) (hl : kvs.length < sizeLine) : DPut H a (kV k) v (upd H a (.dK (putK kvs k v))) := .inl ⟨kvs, k, e, rfl, hl, rfl⟩
theorem DPut.t {H : Hp} {a b : Addr} {kvs : List (List Key × V)} {k : List Key} {v : V} (e : H a = some (.dT kvs)) (eb : H b = some (.tup (k.map kV))) (hl : kvs.length < sizeLine) :
    DPut H a (.ref b) v (upd H a (.dT (putK kvs k v))) := .inr ⟨kvs, k, b, e, rfl, eb, hl, rfl⟩
section
variable {X : Cx} {pins : List (Addr × Obj)} {σ : St} {H : Hp} {s : Shared} {a : Addr} {y v : V} {u r : Value} {o : Option V} {A : Around} {E : Value → Shared → Prop}
theorem Inv.big (I : Inv X pins σ H s) : sysModules < s.heap.objs.size := by
  have h : mainGlobals < s.heap.objs.size := (I.mod.glob.keeps I.bk).lt
  exact Nat.lt_trans (by decide) h
theorem d_getItem {Q : Value → Shared → Prop} (hu : A.units + 1 < cLine) (I : Inv X pins σ H s) (g : DGet H a y (some v)) (ry : RelV y u) (h : ∀ w' s', Inv X pins σ H s' → RelV v w' → Q w' s') :
    wpAny (model X.prog X.w) A (getItem (.ref a) u) Q E s := by
  rcases g with ⟨kvs, k, e, ey, l⟩ | ⟨kvs, k, b, e, ey, eb, l⟩
  · subst ey
    obtain ⟨z, hd, vs, rel, dd⟩ := dk_rd I.hok e
    obtain ⟨w', hw, rw'⟩ := RelO.some_of (v := v) (o := valueAt vs k) (by rw [l]; exact rel.val k)
    exact wpAny_getItem_of (kV_is ry) dd.mapOf hw (h w' _ (I.tok _) rw')
  · subst ey
    cases (show u = Value.ref b from ry)
    obtain ⟨z, hd, xs, rel, dd⟩ := dt_rd I.hok e
    obtain ⟨w', hw, rw'⟩ := RelO.some_of (v := v) (o := (atKey xs k).map (·.2)) (by rw [l]; exact rel.val k)
    obtain ⟨p, hp, hp2⟩ := Option.map_eq_some_iff.mp hw
    refine wpAny_getItem_heap (tupleKind_room_in1 hu) (key_of I.hok eb) dd hp ?_
    rw [hp2]
    exact h w' _ (I.tok _) rw'
theorem d_notIn {Q : Value → Shared → Prop} (hu : A.units + 1 < cLine) (I : Inv X pins σ H s) (g : DGet H a y o) (ry : RelV y u) (h : ∀ s', Inv X pins σ H s' → Q (.bool (!o.isSome)) s') :
    wpAny (model X.prog X.w) A (compareOp .NotIn u (.ref a)) Q E s := by
  rcases g with ⟨kvs, k, e, ey, l⟩ | ⟨kvs, k, b, e, ey, eb, l⟩
  · subst ey
    obtain ⟨z, hd, vs, rel, dd⟩ := dk_rd I.hok e
    refine wpAny_notIn_of (kV_is ry) hd dd.mapOf ?_
    rw [← (rel.val k).isSome_eq, ← l]
    exact h _ (I.tok _)
  · subst ey
    cases (show u = Value.ref b from ry)
    obtain ⟨z, hd, xs, rel, dd⟩ := dt_rd I.hok e
    refine wpAny_notIn_heap (tupleKind_room_in1 hu) (key_of I.hok eb) hd dd ?_
    have q := (rel.val k).isSome_eq
    rw [Option.isSome_map] at q
    rw [← q, ← l]
    exact h _ (I.tok _)
theorem d_write {h' : Heap} {t' : Nat} {ob : HO} (I : Inv X pins σ H s) (mu : Mut (H a)) (hs : Heap.SameBut a s.heap h') (he : ∃ q, h'.get? a = some q) (new : ObjOk X.prog X.w (upd H a ob) h' a ob) :
    Inv X pins σ (upd H a ob) { s with heap := h', toks := t' } :=
  I.write (x := a) (e := a) mu (.inl rfl) (fun b q hb z => (hs.2 b hb).trans z) he new
theorem dk_new {P : Program} {w : World} {H' : Hp} {h' : Heap} {kvs : List (Key × V)} {vs : List (Key × Value)} (z : kvs.length ≤ sizeLine) (hd : (a == sysModules) = false) (rel : KV kvs vs) (dd : h'.DictOf (mixKind P w) a vs) :
    ObjOk P w H' h' a (.dK kvs) := ⟨z, hd, vs, rel, dd⟩
theorem d_setItem {H' : Hp} {Q : Unit → Shared → Prop} (hu : A.units + 1 < cLine) (I : Inv X pins σ H s) (g : DPut H a y v H') (ry : RelV y u) (rv : RelV v r) (h : ∀ s', Inv X pins σ H' s' → Q () s') :
    wpAny (model X.prog X.w) A (setItem (.ref a) u r) Q E s := by
  rcases g with ⟨kvs, k, e, ey, l, eH⟩ | ⟨kvs, k, b, e, ey, eb, l, eH⟩
  · subst ey eH
    obtain ⟨z, hd, vs, rel, dd⟩ := dk_of I.hok e
    have hz : vs.length ≤ sizeLine := by rw [← rel.length]; exact z
    have hl : (putK kvs k v).length ≤ sizeLine := by have := length_putK kvs k v; omega
    refine wpAny_setItem_pairs (hsz := hz) (kV_is ry) dd fun h' dd' hs => h _ ?_
    have he : ∃ q, h'.get? a = some q := let ⟨q, _, _, hq, _⟩ := dd'; ⟨q, hq⟩
    exact d_write I (by rw [e]; exact True.intro) hs he (dk_new hl hd (rel.put k rv) dd')
  · subst ey eH
    cases (show u = Value.ref b from ry)
    obtain ⟨z, hd, xs, rel, dd⟩ := dt_of I.hok e
    have hz : xs.length ≤ sizeLine := by rw [← Paired.length rel]; exact z
    have hl : (putK kvs k v).length ≤ sizeLine := by have := length_putK kvs k v; omega
    refine wpAny_setItem_heap (hsz := hz) (tupleKind_room_in1 hu) (key_of I.hok eb) dd fun h' dd' hs => h _ ?_
    obtain ⟨q, es, ep, hq, h2, h3, h4, _, h5⟩ := dd'
    refine d_write I (by rw [e]; exact True.intro) hs ⟨q, hq⟩ ⟨hl, hd, _, (rel.put k eb rv).keeps fun c ys ec => ?_, q, es, ep, hq, h2, h3, h4, h5⟩
    rw [upd_ne (ne_of ec e (fun z => nomatch z))]
    exact ec
end
section
variable {X : Cx} {pins : List (Addr × Obj)} {σ : St} {H : Hp} {s : Shared} {a : Addr} {kvs : List (Key × V)} {k : Key} {u : Value} {A : Around} {E : Value → Shared → Prop}
end
noncomputable def NoSl (i : Expr) : Prop := ∀ ov iv, subscripted i false ov iv = operate [ov, iv] (getItem ov iv)
theorem subD_of {prog : Program} {w : World} {A : Around} {E : Value → Shared → Prop} {s : Shared} {env : Env} {value slice : Expr} {pos : Pos} {T id : String} {Q : Value → Shared → Prop}
    (hl : typeLookup (.type T) "__getitem__" = pure (some (.builtin id))) (hs : NoSl slice)
    (h : wpAny (model prog w) A (eval value env) (fun o s₁ => wpAny (model prog w) A (eval slice env) (fun i s₂ => s₂.TypeIs o T ∧ wpAny (model prog w) A (getItem o i) Q E s₂) E s₁) E s) :
    wpAny (model prog w) A (eval (.Subscript value slice pos) env) Q E s := by
  refine Subscript_ (wpAny_mono h (fun o s₁ h₁ => wpAny_mono h₁ (fun i s₂ h₂ => ?_) fun _ _ x => x) fun _ _ x => x)
  obtain ⟨hT, h₂⟩ := h₂
  unfold subscriptTail
  refine wpAny_bind ?_
  rw [getitemInPython_of_ne hT.not_modules]
  refine wpAny_bind (wpAny_specialOf hT hl ?_)
  have fin : wpAny (model prog w) A (subscripted slice false o i) (fun r s₃ => wpAny (model prog w) A (letTemporaryGo value o r >>= fun _ => pure r) Q E s₃) E s₂ := by
    rw [hs o i]
    exact wpAny_operating (wpAny_mono h₂ (fun r s₃ h₃ => wpAny_bind (wpAny_letTemporaryGo (wpAny_pure h₃))) fun _ _ x => x)
  first
    | exact wpAny_pure (wpAny_bind fin)
    | exact wpAny_bind (wpAny_pure (wpAny_bind fin))
    | exact wpAny_bind fin
theorem dict_typeIs {X : Cx} {pins : List (Addr × Obj)} {σ : St} {H : Hp} {s : Shared} {a : Addr} {y : V} {o : Option V} (I : Inv X pins σ H s) (g : DGet H a y o) : s.TypeIs (.ref a) "dict" := by
  rcases g with ⟨kvs, k, e, _, _⟩ | ⟨kvs, k, b, e, _, _, _⟩
  · obtain ⟨_, _, vs, _, dd⟩ := dk_rd I.hok e
    exact dd.typeIs
  · obtain ⟨_, _, xs, _, dd⟩ := dt_rd I.hok e
    exact dd.typeIs
noncomputable def tDGet (td ty : TE) : TE := fun σ H Q => td σ H fun x H1 => ty σ H1 fun y H2 => ∃ a v, x = .ref a ∧ DGet H2 a y (some v) ∧ Q v H2
noncomputable def tDNotIn (ty td : TE) : TE := fun σ H Q => ty σ H fun y H1 => td σ H1 fun x H2 => ∃ a o, x = .ref a ∧ DGet H2 a y o ∧ Q (.bl (!o.isSome)) H2
noncomputable def sDPut (td ty tv : TE) : TS := fun D σ H => tv σ H fun v H1 => td σ H1 fun x H2 => ty σ H2 fun y H3 => ∃ a H4, x = .ref a ∧ DPut H3 a y v H4 ∧ D.nx σ H4
section
variable {X : Cx} {o i e value : Expr} {pos pos' tpos : Pos} {td ty tv : TE}
theorem pe_dget (hu : X.A.units + 1 < cLine) (ho : PE X o td) (hi : PE X i ty) (hs : NoSl i) : PE X (.Subscript o i pos) (tDGet td ty) := by
  intro pins s σ H Q I h
  refine subD_of PySem.F.slot_dict_getitem.lookup hs (thn (ho pins s σ H _ I h) fun u s1 hq9 => ?_)
  obtain ⟨x, H1, I1, rx, q1⟩ := hq9
  refine thn (hi pins s1 σ H1 _ I1 q1) fun iv s2 hpat => ?_
  obtain ⟨y, H2, I2, ry, a, v, ex, g, q2⟩ := hpat
  subst ex
  obtain rfl : u = Value.ref a := rx
  exact ⟨dict_typeIs I2 g, d_getItem hu I2 g ry fun w' s3 I3 rw' => ⟨v, H2, I3, rw', q2⟩⟩
theorem pc_dnotin (hu : X.A.units + 1 < cLine) (hi : PE X i ty) (ho : PE X o td) : PC X .NotIn i o (tDNotIn ty td) := by
  intro pins s σ H Q I h
  refine thn (hi pins s σ H _ I h) fun iv s1 hq10 => ?_
  obtain ⟨y, H1, I1, ry, q1⟩ := hq10
  refine thn (ho pins s1 σ H1 _ I1 q1) fun u s2 hpat => ?_
  obtain ⟨x, H2, I2, rx, a, ov, ex, g, q2⟩ := hpat
  subst ex
  obtain rfl : u = Value.ref a := rx
  exact d_notIn hu I2 g ry fun s3 I3 => ⟨.bl (!ov.isSome), H2, I3, rfl, q2⟩
theorem ps_dput (hu : X.A.units + 1 < cLine) (ho : PE X o td) (hi : PE X i ty) (hv : PE X value tv) (hs : swapsWith value (some (.Subscript o i pos')) pos.line X.env = pure false) :
    PS X (.Assign [.Subscript o i pos'] value pos) (sDPut td ty tv) := by
  intro pins s σ H D I h
  refine wpAny_Assign_Subscript (thn (hv pins s σ H _ I h) fun r s1 hq11 => ?_) hs
  obtain ⟨v, H1, I1, rv, q1⟩ := hq11
  refine thn (ho pins s1 σ H1 _ I1 q1) fun u s2 hq12 => ?_
  obtain ⟨x, H2, I2, rx, q2⟩ := hq12
  refine thn (hi pins s2 σ H2 _ I2 q2) fun iv s3 hpat => ?_
  obtain ⟨y, H3, I3, ry, a, H4, ex, g, q3⟩ := hpat
  subst ex
  obtain rfl : u = Value.ref a := rx
  exact d_setItem hu I3 g ry rv fun s4 I4 => ⟨σ, H4, I4, q3⟩
end
theorem dk_empty {P : Program} {w : World} {H : Hp} (h : Heap) (hb : sysModules < h.objs.size) : ObjOk P w H (h.push { cls := .type "dict", data := .dict #[] }) h.objs.size (.dK []) :=
  ⟨Nat.zero_le _, beq_eq_false_iff_ne.mpr (Ne.symm (Nat.ne_of_lt hb)), [], .nil, Heap.DictOf.new h⟩
theorem dt_empty {P : Program} {w : World} {H : Hp} (h : Heap) (hb : sysModules < h.objs.size) : ObjOk P w H (h.push { cls := .type "dict", data := .dict #[] }) h.objs.size (.dT []) :=
  ⟨Nat.zero_le _, beq_eq_false_iff_ne.mpr (Ne.symm (Nat.ne_of_lt hb)), [], .nil, _, #[], 0, Heap.get?_push_size _ rfl, ⟨rfl, rfl, rfl⟩, rfl, rfl, List.nodup_nil⟩
noncomputable def tDNewK : TE := fun _ H Q => ∀ p, H p = none → Q (.ref p) (upd H p (.dK []))
noncomputable def tDNewT : TE := fun _ H Q => ∀ p, H p = none → Q (.ref p) (upd H p (.dT []))
section
variable {X : Cx} {pos : Pos}
theorem pe_dnewK : PE X (.Dict [] [] pos) tDNewK := fun pins s σ H Q I h =>
  wpAny_Dict_empty ⟨.ref s.heap.objs.size, _, I.laid (a := s.heap.objs.size) (o := .dK []) (t' := s.toks) (fun _ _ q => Heap.get?_push_of_some _ q) (Nat.le_refl _) (dk_empty s.heap I.big), rfl, h _ (I.hok.fresh (Nat.le_refl _))⟩
theorem pe_dnewT : PE X (.Dict [] [] pos) tDNewT := fun pins s σ H Q I h =>
  wpAny_Dict_empty ⟨.ref s.heap.objs.size, _, I.laid (a := s.heap.objs.size) (o := .dT []) (t' := s.toks) (fun _ _ q => Heap.get?_push_of_some _ q) (Nat.le_refl _) (dt_empty s.heap I.big), rfl, h _ (I.hok.fresh (Nat.le_refl _))⟩
end
noncomputable abbrev VV : List (V × V) → List (Value × Value) → Prop := Paired fun p q => RelV p.1 q.1 ∧ RelV p.2 q.2
section
variable {X : Cx} {pins : List (Addr × Obj)} {σ : St} {H : Hp} {s : Shared} {a : Addr} {y d : V} {u r : Value} {o : Option V} {A : Around} {E : Value → Shared → Prop}
end
section
variable {X : Cx} {o e f : Expr} {apos cpos : Pos} {td ty tx : TE}
end
section
variable {X : Cx} {pins : List (Addr × Obj)} {σ : St} {H : Hp} {s : Shared} {a : Addr} {kvs : List (Key × V)} {A : Around} {E : Value → Shared → Prop}
end
section
variable {X : Cx} {pins : List (Addr × Obj)} {σ : St} {H : Hp} {s : Shared} {a : Addr} {y : V} {u : Value} {A : Around} {E : Value → Shared → Prop}
end
end L2
namespace L2
open PySem PySem.Spec PyProof.Rows
section
variable {X : Cx}
end
section
variable {κ : Type} [DecidableEq κ]
end
end L2
set_option Elab.async false
set_option linter.all false
set_option maxRecDepth 100000
set_option maxHeartbeats 4000000
namespace L2
open PySem PySem.Spec PyProof.Rows
theorem keys_miss {prog : Program} {w : World} {A : Around} {E : Value → Shared → Prop} {s : Shared} {a : Addr} {items : Array Value} {Q : Option Value → Shared → Prop} (hL : s.heap.IsTuple a items) (hn : ∀ o, s.heap.get? a = some o → o.dict = none) (hA : A.handled = none)
    (h : ∀ h' tk, (∀ b ob, s.heap.get? b = some ob → h'.get? b = some ob) → Q none { s with heap := h', toks := tk }) : wpAny (model prog w) A (getAttr? (.ref a) "keys") Q E s := by
  obtain ⟨⟨c, dct, dat, sl⟩, hx, hc, k, hd⟩ := hL
  have hdn := hn _ hx
  simp only at hc hd hdn
  subst hc hd hdn
  obtain ⟨hp, g, d, tk, os⟩ := s
  have hT : ∀ tk', (⟨hp, g, d, tk', os⟩ : Shared).TypeIs (.ref a) "tuple" := fun _ => ⟨_, hx, rfl⟩
  have f1 := sub_AttributeError
  have f3 := F.slot_tuple_getattribute.lookup
  have f4 := F.slot_tuple_getattribute.bind (.ref a)
  have f5 := am_tuple_getattr_none
  have hmiss : typeLookup (.type "tuple") "keys" = pure none := am_miss_of_fast (by decide +kernel)
  unfold getAttr? getAttrBy? getAttrBy
  repeat (any_goals (first | assumption | exact hT _ | ((with_reducible show wpAny _ _ (call (Value.builtin "tuple.__getattribute__") _ _) _ _ _); refine call_meets F.slot_tuple_getattribute (hT _) am_entry_tuple_getattribute (F.args_tuple_getattribute_2 _ _) (meets_getattribute_miss_tuple a items k sl "keys" _ hmiss (by decide +kernel) (by decide +kernel)) ⟨hx, hA, fun h' tk' e hx' => ?_⟩) | wp_step))
  obtain ⟨t', u', he⟩ := hx'.there
  show wpAny _ _ (getattributeRaised _ _ _ _ _ _ _) _ _ _
  unfold getattributeRaised
  repeat (any_goals (first | assumption | wp_step))
  exact h _ _ hx'.keeps
theorem entry_dul : entryFor table "dict.update.loop" = some Builtin.«dict.update.loop» := entryFor_of_fast (by kernel_rfl)
theorem plain_dul : plainId "dict.update.loop" = true := by decide +kernel
section
variable {X : Cx}
noncomputable def tTupF (t : TA) : TE := fun σ H Q => t σ H fun xs H1 => xs.length ≤ sizeLine ∧ ∀ p (o : Obj), H1 p = none → o.dict = none → Q (.ref p) (upd H1 p (.frz o (.tup xs)))
theorem pe_tupF {x1} {es : List Expr} {t : TA} {pos : Pos} (h : PA X es t) : PE X (.Tuple es x1 pos) (tTupF t) := by
  intro pins s σ H Q I hq
  refine wpAny_Tuple_spliced (thn (h pos pins s σ H _ I hq) fun us s1 hq13 => ?_)
  obtain ⟨xs, H1, I1, r, z, q⟩ := hq13
  refine ⟨by rw [← r.length]; exact z, ?_⟩
  have hf : H1 s1.heap.objs.size = none := I1.hok.fresh (Nat.le_refl _)
  refine ⟨.ref s1.heap.objs.size, _, I1.laid (t' := s1.toks) (fun b u e => Heap.get?_push_of_some _ e) (Nat.le_refl _) ?_, rfl, q _ { cls := .type "tuple", data := .seq us.toArray } hf rfl⟩
  exact ⟨Heap.get?_push_size _ rfl, z, us, r, ⟨_, Heap.get?_push_size _ rfl, rfl, _, rfl⟩⟩
noncomputable def foldP (ps : List (Str × V)) (m : List (Key × V)) : List (Key × V) := ps.foldl (fun m p => putK m (Sum.inr p.1) p.2) m
theorem dict_loop (hc : X.calm = true) {A : Around} (hA : A.handled = none) {pins : List (Addr × Obj)} {σ : St} {H0 : Hp} {Q : VK} {a d it : Addr} {vs : List V} (hda : d ≠ a) (hit : it ≠ a) (hdi : d ≠ it) :
    ∀ (n i : Nat) (s : Shared) (m : List (Key × V)) (ps : List (Str × V)) (j : Int) (tk : Tok), n = vs.length - i → Inv X pins σ (upd H0 d (.dK m)) s → s.heap.IsTupleIter it a i → FpOk X pins (upd H0 d (.dK m)) it → SqT X.K (upd H0 d (.dK m)) a vs →
      Paired (fun v (p : Str × V) => ∃ t, v = .ref t ∧ t ≠ d ∧ SqT X.K H0 t [.str p.1, p.2]) (vs.drop i) ps → m.length + ps.length ≤ 1000 → H0 it = none →
      Q (.ref d) (upd H0 d (.dK (foldP ps m))) → codeAny (model X.prog X.w) A (.builtin "dict.update.loop" ⟨[.ref d, .ref it, .int j tk, .none], []⟩) (wants (fun u s' => u = .none ∧ ∃ H', Inv X pins σ H' s' ∧ Q (.ref d) H') (fun _ _ => False)) s := by
  intro n
  induction n with
  | zero =>
    intro i s m ps j tk hn I st fp hsq hp hlen hn0 q
    have hd : vs.drop i = [] := List.drop_eq_nil_of_le (by omega)
    rw [hd] at hp
    cases hp
    obtain ⟨its, rv, pt, hz⟩ := I.tuple hsq
    have hl := rv.length
    obtain ⟨f0, f1, f2, f3, f4, f5⟩ := fp
    refine codeAny_builtin entry_dul ?_
    rw [Around.under_plainId plain_dul _]
    show wpAny _ A.in1 (pyNext (.ref it) >>= _) _ _ s
    refine wpAny_bind (wpAny_pyNext_tuple_end (A := A.in1) hA st (show s.heap.IsTuple a its.toArray from pt) (by simp; omega) fun h' eb => ?_)
    have I' : Inv X pins σ (upd H0 d (.dK m)) { s with heap := h' } := I.turned (t' := s.toks) (fun b o hb e => eb b o hb e) f0 f1 f3 f4 f5
    show wpAny _ _ (Builtin.Dict.addKeywords d [] >>= _) _ _ _
    exact wpAny_bind (wpAny_pure (wpAny_pure ⟨rfl, _, I', q⟩))
  | succ n ih =>
    intro i s m ps j tk hn I st fp hsq hp hlen hn0 q
    have hi : i < vs.length := by omega
    have hdr : vs.drop i = vs[i] :: vs.drop (i + 1) := List.drop_eq_getElem_cons hi
    rw [hdr] at hp
    cases hp with
    | @cons _ p _ ps' h1 hrest =>
    obtain ⟨t, e, htd, ht⟩ := h1
    obtain ⟨its, rv, pt, hz⟩ := I.tuple hsq
    have hl := rv.length
    have hx : vs[i]? = some (V.ref t) := by simp [hi, e]
    obtain ⟨u, hu, ru⟩ := rv.get hx
    cases ru
    obtain ⟨f0, f1, f2, f3, f4, f5⟩ := id fp
    refine codeAny_builtin entry_dul ?_
    rw [Around.under_plainId plain_dul _]
    show wpAny _ A.in1 (pyNext (.ref it) >>= _) _ _ s
    refine wpAny_bind (wpAny_pyNext_tuple_item (A := A.in1) st (show s.heap.IsTuple a its.toArray from pt) (x := .ref t) (by simpa using hu) fun h' st' sb => ?_)
    have I' : Inv X pins σ (upd H0 d (.dK m)) { s with heap := h' } := I.turned (t' := s.toks) (fun b o hb e => (sb.2 b hb).trans e) f0 f1 f3 f4 f5
    have ht' : SqT X.K (upd H0 d (.dK m)) t [.str p.1, p.2] := by
      rcases ht with (ht | ⟨o, ht⟩) | ht
      · exact .inl (.inl (by rw [upd_ne htd]; exact ht))
      · exact .inl (.inr ⟨o, by rw [upd_ne htd]; exact ht⟩)
      · exact .inr ht
    obtain ⟨kv, rkv, ptt, _⟩ := I'.tuple ht'
    cases rkv with
    | @cons _ ku _ _ rk rr =>
    cases rr with
    | @cons _ vu _ _ rvv rr =>
    cases rr
    obtain ⟨tk2, rfl⟩ := rk
    have hTy : (⟨h', s.gens, s.drawn, s.toks, s.os⟩ : Shared).TypeIs (.ref t) "tuple" := by obtain ⟨o, ho, hcl, _⟩ := ptt; exact ⟨o, ho, hcl⟩
    dsimp only
    obtain ⟨ot, hot, hoc, kt, hodat⟩ := ptt
    obtain ⟨z, hsm, ws, rel, dd⟩ := dk_of I'.hok (upd_same (H := H0) (a := d) (o := .dK m))
    have hz2 : ws.length ≤ sizeLine := by rw [← rel.length]; exact z
    refine wpAny_bind (wpAny_holding (wpAny_bind (wpAny_tryCatch ?_)))
    unfold Builtin.Dict.pairItems
    refine wpAny_bind (wpAny_typeOf hTy ?_)
    rw [if_pos (by decide)]
    refine wpAny_bind (wpAny_seqItems hot hodat (wpAny_pure ?_))
    show wpAny _ _ (holding [Value.str p.1 tk2, vu] (dictSet d (Value.str p.1 tk2) vu)) _ _ _
    refine wpAny_holding (wpAny_dictSet_pairs (knd := mixKind X.prog X.w) (k := Sum.inr p.1) (mixKind_str X.prog X.w p.1 tk2) dd (fun h2 dd2 sb2 => ?_) hz2)
    have hl2 : (putK m (Sum.inr p.1) p.2).length ≤ sizeLine := by
      have h3 := length_putK m (Sum.inr p.1) p.2
      have : sizeLine = 16777216 := sizeLine_eq
      simp only [List.length_cons] at hlen
      omega
    have he : ∃ q, h2.get? d = some q := let ⟨q, _, _, hq, _⟩ := dd2; ⟨q, hq⟩
    have I2 : Inv X pins σ (upd (upd H0 d (.dK m)) d (.dK (putK m (Sum.inr p.1) p.2))) { heap := h2, gens := s.gens, drawn := s.drawn, toks := s.toks + 1, os := s.os } :=
      d_write (s := { heap := h', gens := s.gens, drawn := s.drawn, toks := s.toks, os := s.os }) (t' := s.toks + 1) I' (by rw [upd_same]; exact True.intro) sb2 he (dk_new hl2 hsm (rel.put _ rvv) dd2)
    rw [upd_upd] at I2
    refine wpAny_pure ⟨plainId_quiet plain_dul _, ?_⟩
    have hsq2 : SqT X.K (upd H0 d (.dK (putK m (Sum.inr p.1) p.2))) a vs := by
      rcases hsq with (h | ⟨o, h⟩) | h
      · rw [upd_ne hda.symm] at h; exact .inl (.inl (by rw [upd_ne hda.symm]; exact h))
      · rw [upd_ne hda.symm] at h; exact .inl (.inr ⟨o, by rw [upd_ne hda.symm]; exact h⟩)
      · exact .inr h
    refine ih (i + 1) _ (putK m (Sum.inr p.1) p.2) ps' (j + 1) _ (by omega) I2 ?_ ⟨by rw [upd_ne hdi.symm]; exact hn0, f1, f2, f3, f4, f5⟩ hsq2 hrest ?_ hn0 q
    · obtain ⟨oi, hoi, r⟩ := st'
      exact ⟨oi, (sb2.2 it hdi.symm).trans hoi, r⟩
    · have h3 := length_putK m (Sum.inr p.1) p.2
      simp only [List.length_cons] at hlen
      omega
theorem call_dictT (hc : X.calm = true) : CallR X (.type "dict") (fun xs H Q => ∃ (a : Addr) (o : Obj) (vs : List V) (ps : List (Str × V)), xs = [.ref a] ∧ H a = some (.frz o (.tup vs)) ∧ o.dict = none ∧ Paired (fun v (p : Str × V) => ∃ t, v = .ref t ∧ SqT X.K H t [.str p.1, p.2]) vs ps ∧ ps.length ≤ 1000 ∧
    ∀ d, H d = none → Q (.ref d) (upd H d (.dK (foldP ps [])))) := by
  intro pins s σ H xs us Q I r h
  obtain ⟨a, o, vs, ps, rfl, ha, hod, hp, hlen, q⟩ := h
  obtain ⟨u, rfl, ru⟩ := vals1 r
  cases ru
  have hsq : SqT X.K H a vs := .inl (.inr ⟨o, ha⟩)
  obtain ⟨its, rv, pt, hz⟩ := I.tuple hsq
  have hobj : s.heap.get? a = some o := (I.hok a _ ha).1
  have hfr : H s.heap.objs.size = none := I.hok.fresh (Nat.le_refl _)
  refine callType_codes (Q₁ := fun obj s₁ => obj = .ref s.heap.objs.size ∧ s₁ = { s with heap := s.heap.push { cls := .type "dict", data := .dict #[] } }) F.kt_called_dict (F.kt_typeCall_dict_1 _) F.entry_dict_init (kt_code_dict_new _ ⟨rfl, rfl⟩) ?_
  rintro obj s₁ ⟨rfl, rfl⟩
  have I1 : Inv X pins σ (upd H s.heap.objs.size (.dK [])) { s with heap := s.heap.push { cls := .type "dict", data := .dict #[] } } :=
    I.laid (a := s.heap.objs.size) (o := .dK []) (t' := s.toks) (fun _ _ q => Heap.get?_push_of_some _ q) (Nat.le_refl _) (dk_empty s.heap I.big)
  have hnew : (s.heap.push { cls := .type "dict", data := .dict #[] }).DictOf (mixKind X.prog X.w) s.heap.objs.size [] := Heap.DictOf.new s.heap
  refine ⟨hnew.typeIs, F.args_dict_init_2 _ _, ?_⟩
  unfold Builtin.«dict.__init__»
  refine wpAny_bind ?_
  unfold Builtin.Dict.selfAndRest
  refine wpAny_bind (wpAny_notOrdered_dict hnew.typeIs ?_)
  show wpAny _ _ (pure (s.heap.objs.size, [Value.ref a])) _ _ _
  refine wpAny_pure ?_
  show wpAny _ _ (Builtin.Dict.updateFrom "dict.__init__" s.heap.objs.size (.ref a) [] .none) _ _ _
  have had : s.heap.objs.size ≠ a := Ne.symm (ne_of_none ha hfr)
  have hobj1 : (s.heap.push { cls := .type "dict", data := .dict #[] }).get? a = some o := Heap.get?_push_of_some _ hobj
  have htp : (s.heap.push { cls := .type "dict", data := .dict #[] }).IsTuple a its.toArray := by
    obtain ⟨o2, h1, h2⟩ := pt
    exact ⟨o2, Heap.get?_push_of_some _ h1, h2⟩
  unfold Builtin.Dict.updateFrom
  refine wpAny_bind (wpAny_typeOf (s := { s with heap := s.heap.push { cls := .type "dict", data := .dict #[] } }) (T := "tuple") (by obtain ⟨o2, h1, h2, _⟩ := htp; exact ⟨o2, h1, h2⟩) ?_)
  rw [if_pos (by decide)]
  refine wpAny_bind (keys_miss htp (fun o2 h2 => by rw [hobj1] at h2; cases h2; exact hod) (I.ok.hd hc) fun h' tk hk => ?_)
  rw [if_pos (show (none : Option Value).isNone = true from rfl)]
  refine wpAny_bind (wpAny_rule ?_)
  have I2 : Inv X pins σ (upd H s.heap.objs.size (.dK [])) { s with heap := h', toks := tk } := I1.kept hk
  have htp2 : h'.IsTuple a its.toArray := by
    obtain ⟨o2, h1, h2⟩ := htp
    exact ⟨o2, hk _ _ h1, h2⟩
  refine wpAny_bind (wpAny_pyIter_tuple (s := { s with heap := h', toks := tk }) htp2 ?_)
  refine wpAny_pure ⟨plainId_quiet plain_dul _, ?_⟩
  have I3 := I2.kept (h' := h'.push { cls := .type "tuple_iterator", data := .fields #[.ref a, .int 0 0] }) (t' := tk) fun b ob e => Heap.get?_push_of_some _ e
  have hfi : upd H s.heap.objs.size (.dK []) h'.objs.size = none := I2.hok.fresh (Nat.le_refl _)
  have hdi : s.heap.objs.size ≠ h'.objs.size := by
    intro z
    rw [← z, upd_same] at hfi
    cases hfi
  have hfi0 : H h'.objs.size = none := by rw [upd_ne hdi.symm] at hfi; exact hfi
  have hia : h'.objs.size ≠ a := fun z => by
    rw [z, ha] at hfi0
    cases hfi0
  have hsq1 : SqT X.K (upd H s.heap.objs.size (.dK [])) a vs := .inl (.inr ⟨o, by rw [upd_ne had.symm]; exact ha⟩)
  have L := dict_loop (X := X) hc (A := X.A.in1) (I.ok.hd hc) (pins := pins) (σ := σ) (H0 := H) (Q := Q) (a := a) (d := s.heap.objs.size) (it := h'.objs.size) (vs := vs) had hia hdi vs.length 0 _ [] ps 0 0 (by omega) I3 ⟨_, Heap.get?_push_size _ rfl, rfl, rfl⟩ (I2.fpOk (Nat.le_refl _) hfi) hsq1
    (Paired.mapP hp fun v p ⟨t, e, ht⟩ => ⟨t, e, fun z => ?_, ht⟩) (by simpa using hlen) hfi0 (q _ hfr)
  · refine codeAny_mono L fun r s' hr => ?_
    cases r with
    | error e => exact False.elim hr
    | ok f =>
      cases f with
      | ret v =>
        obtain ⟨e, H', I', q'⟩ := hr
        exact ⟨e, .ref s.heap.objs.size, H', I', rfl, q'⟩
      | next => exact False.elim hr
      | brk => exact False.elim hr
      | cont => exact False.elim hr
  · obtain ⟨its2, _, ⟨o2, h2, _⟩, _⟩ := I.tuple ht
    rw [z] at h2
    exact absurd (Heap.lt_size h2) (Nat.lt_irrefl _)
end
end L2
set_option Elab.async false
set_option linter.all false
set_option maxRecDepth 100000
set_option maxHeartbeats 4000000
namespace L2
open PySem PySem.Spec PyProof.Rows PySem.W
section
variable {prog : Program} {w : World} {A : Around} {E : Value → Shared → Prop} {s : Shared} {T : String} {r d : Addr} {n : Nat} {P : Nat → Value → Prop} {OK : Heap → Prop}
end
section
variable {X : Cx}
end
end L2
set_option Elab.async false
set_option linter.all false
set_option maxRecDepth 100000
set_option maxHeartbeats 4000000
namespace L2
open PySem PySem.Spec PyProof.Rows
noncomputable def kindS : Rw → Str
  | .bring _ _ => "bring"
  | .give _ _ => "give"
  | .set _ _ => "set"
  | .take _ => "take"
  | .say _ _ => "say"
  | .need _ => "need"
  | .ask _ _ => "ask"
  | .part _ => "part"
  | .doo _ => "do"
noncomputable def addN (l : List Str) (x : Str) : List Str := if x ∈ l then l else l ++ [x]
noncomputable def setD (l : List Str) : List (Key × V) := l.map fun x => (Sum.inr x, .bl true)
theorem setD_len (l : List Str) : (setD l).length = l.length := List.length_map _
theorem setD_any (l : List Str) (x : Str) : ((setD l).any fun kv => decide (kv.1 = Sum.inr x)) = decide (x ∈ l) := by
  induction l with
  | nil => simp [setD]
  | cons a r ih =>
    have : setD (a :: r) = (Sum.inr a, .bl true) :: setD r := rfl
    rw [this, List.any_cons, ih]
    by_cases e : a = x
    · subst e; simp
    · have h1 : ¬ (Sum.inr a : Key) = Sum.inr x := fun z => e (Sum.inr.inj z)
      have h2 : ¬ x = a := fun z => e z.symm
      simp [e, h2]
theorem setD_put (l : List Str) (x : Str) : putK (setD l) (Sum.inr x) (.bl true) = setD (addN l x) := by
  unfold putK
  rw [setD_any]
  unfold addN
  by_cases e : x ∈ l
  · rw [if_pos (by simpa using e), if_pos e]
    unfold setD
    rw [List.map_map]
    refine List.map_congr_left fun a _ => ?_
    show (if (Sum.inr a : Key) = Sum.inr x then ((Sum.inr a : Key), V.bl true) else (Sum.inr a, V.bl true)) = _
    split <;> rfl
  · rw [if_neg (by simpa using e), if_neg e]
    unfold setD
    rw [List.map_append]
    rfl
noncomputable def PartsF (H : Hp) (a : Addr) (ps : List Pt) : Prop := ∃ o vs, H a = some (.frz o (.tup vs)) ∧ o.dict = none ∧ Paired (PartAt H) vs ps
theorem Same.partsF {H H' : Hp} (s : Same H H') {a : Addr} {ps : List Pt} (h : PartsF H a ps) : PartsF H' a ps := by
  obtain ⟨o, vs, h1, h2, h3⟩ := h
  exact ⟨o, vs, s _ _ h1, h2, Paired.mapP h3 fun _ _ q => q.mono s.tups⟩
theorem foldP_get : ∀ (ps : List (Str × V)) (m : List (Key × V)) (n : Str) (v : V), (ps.map (·.1)).Nodup → ((n, v) ∈ ps ∨ ((∀ p ∈ ps, p.1 ≠ n) ∧ valV m (Sum.inr n) = some v)) → valV (foldP ps m) (Sum.inr n) = some v
  | [], m, n, v, _, h => by
    rcases h with h | h
    · simp at h
    · exact h.2
  | p :: ps, m, n, v, hn, h => by
    rw [List.map_cons, List.nodup_cons] at hn
    show valV (foldP ps (putK m (Sum.inr p.1) p.2)) _ = _
    refine foldP_get ps _ n v hn.2 ?_
    rcases h with h | ⟨h1, h2⟩
    · rcases List.mem_cons.mp h with e | e
      · refine .inr ⟨fun q hq z => hn.1 ?_, ?_⟩
        · rw [← e]; show n ∈ _; rw [← z]; exact List.mem_map_of_mem hq
        · rw [← e]
          show valV (putK m (Sum.inr n) v) (Sum.inr n) = _
          rw [valV_put, if_pos rfl]
      · exact .inl e
    · refine .inr ⟨fun q hq => h1 q (List.mem_cons_of_mem _ hq), ?_⟩
      rw [valV_put, if_neg (fun z => h1 p List.mem_cons_self (Sum.inr.inj z).symm)]
      exact h2
theorem RowAt.kind {H : Hp} {r : Addr} {rw : Rw} (h : RowAt H r rw) : ∃ x rest, H r = some (.tup (.str (kindS rw) :: x :: rest)) := by
  cases rw with
  | bring p ps => obtain ⟨t, h1, h2⟩ := h; exact ⟨_, _, h1⟩
  | give o g => exact ⟨_, _, h⟩
  | set o ts => obtain ⟨t, h1, h2⟩ := h; exact ⟨_, _, h1⟩
  | take o => exact ⟨_, _, h⟩
  | say ts w => obtain ⟨t, h1, h2⟩ := h; exact ⟨_, _, h1⟩
  | need ts => obtain ⟨t, h1, h2⟩ := h; exact ⟨_, _, h1⟩
  | ask p w => exact ⟨_, _, h⟩
  | part p => exact ⟨_, _, h⟩
  | doo p => exact ⟨_, _, h⟩
end L2
set_option Elab.async false
set_option linter.all false
set_option maxRecDepth 100000
set_option maxHeartbeats 4000000
namespace L2
open PySem PySem.Spec PyProof.Rows
section
variable {X : Cx}
end
end L2
set_option Elab.async false
set_option linter.all false
set_option maxRecDepth 100000
set_option maxHeartbeats 4000000
namespace L2
open PySem PySem.Spec PyProof.Rows
section
variable {X : Cx}
theorem op_neL_nil (hu : X.A.units < cLine) : OpR X (compareOp .NotEq) (fun x y H Q => ∃ a b xs, x = .ref a ∧ y = .ref b ∧ SqL X.K H a xs ∧ SqL X.K H b [] ∧ Q (.bl (!xs.isEmpty)) H) := by
  intro pins s σ H x y v u Q I rx ry h
  obtain ⟨a, b, xs, rfl, rfl, ha, hb, q⟩ := h
  cases rx
  cases ry
  obtain ⟨its, r1, p1, _⟩ := I.list ha
  obtain ⟨its2, r2, p2, _⟩ := I.list hb
  cases r2
  cases xs with
  | nil =>
    cases r1
    exact SeqAt.RcNeAt.lists (e := fun _ => true) p1.isList p2.isList rfl hu (fun j h1 _ => absurd h1 (by simp)) _ _ _ _ ⟨.bl false, H, I, rfl, q⟩
  | cons c r =>
    have hl1 := r1.length
    exact SeqAt.RcNeAt.lists_lengths p1.isList p2.isList (by rw [bne_iff_ne]; intro z; simp only [List.size_toArray, List.length_nil, List.length_cons] at z hl1; omega) hu _ _ _ _ ⟨.bl true, H, I, rfl, q⟩
end
end L2
set_option Elab.async false
set_option linter.all false
set_option maxRecDepth 100000
set_option maxHeartbeats 4000000
namespace L2
open PySem PySem.Spec PyProof.Rows
section
variable {X : Cx} {elts : List Expr} {k : Nat} {tpos : Pos}
end
end L2
set_option Elab.async false
set_option linter.all false
set_option maxRecDepth 100000
set_option maxHeartbeats 4000000
namespace L2
open PySem PySem.Spec PyProof.Rows
section
variable {P : Program} {w : World} {A : Around} {E : Value → Shared → Prop} {s : Shared} {z TI TO i1 i2 l1 l2 : Addr} {xs ys : Array Value} {I1 I2 : Nat → Heap → Prop} {S1 S2 : Heap → Prop}
end
section
variable {X : Cx} {elts : List Expr} {k : Nat} {tpos : Pos}
end
end L2
set_option Elab.async false
set_option linter.all false
set_option maxRecDepth 100000
set_option maxHeartbeats 4000000
namespace L2
open PySem PySem.Spec PyProof.Rows
end L2
set_option Elab.async false
set_option linter.all false
set_option maxRecDepth 100000
set_option maxHeartbeats 4000000
namespace L2
open PySem PySem.Spec PyProof.Rows
end L2
set_option Elab.async false
set_option linter.all false
set_option maxRecDepth 100000
set_option maxHeartbeats 4000000
namespace L2
open PySem PySem.Spec PyProof.Rows PySem.W
noncomputable def RawAt (h : Heap) (d : Addr) (es : Array DictEntry) (ep : Nat) : Prop := ∃ o, h.get? d = some o ∧ o.ExactDict ∧ o.data = .dict es ep
section
variable {P : Program} {w : World} {A : Around} {E : Value → Shared → Prop} {s : Shared} {d : Addr} {es : Array DictEntry} {ep : Nat}
theorem RawAt.ty (r : RawAt s.heap d es ep) : s.TypeIs (.ref d) "dict" := by
  obtain ⟨ob, e, c, _⟩ := r
  exact ⟨ob, e, c.1⟩
theorem raw_iter {Q : Value → Shared → Prop} (lo : (d == sysModules) = false) (r : RawAt s.heap d es ep)
    (q : Q (.ref s.heap.objs.size) { s with heap := s.heap.push { cls := .type "dict_keyiterator", data := .fields #[.ref d, .int 0 0, .int es.size 0, .int ep 0] } }) : wpAny (model P w) A (pyIter (.ref d)) Q E s := by
  have ty := r.ty
  obtain ⟨ob, eb, cb, db⟩ := r
  refine wpAny_pyIter_slot ty F.slot_dict_iter (wpAny_call_entry F.slot_dict_iter ty F.entry_dict_iter ?_ (F.args_dict_iter_1 _))
  unfold Builtin.«dict.__iter__» Builtin.Dict.dictSlotNone
  refine wpAny_bind (wpAny_bind (wpAny_notOrdered_dict ty ?_))
  show wpAny _ _ (pure (Value.ref d)) _ _ s
  refine wpAny_pure ?_
  show wpAny _ _ (Builtin.Dict.showsAll d >>= _) _ _ s
  unfold Builtin.Dict.showsAll
  rw [if_neg (fun z => by rw [lo] at z; exact Bool.false_ne_true z)]
  refine wpAny_bind (wpAny_pure (wpAny_bind (wpAny_dictEntries eb db (wpAny_bind (wpAny_dictEpoch eb db ?_)))))
  refine wpAny_bind (wpAny_newObj_type (wpAny_pure ⟨_, rfl, "dict_keyiterator", _, ⟨_, Heap.get?_push_size _ rfl, rfl⟩, F.slot_dict_keyiterator_next.lookup, ?_⟩))
  simpa [rawInt] using q
theorem raw_item {it : Addr} {i : Nat} {e : DictEntry} {Q : Option Value → Shared → Prop} (hi : s.heap.IsKeyIter it d i es.size ep) (r : RawAt s.heap d es ep) (he : es[i]? = some e)
    (q : ∀ h', h'.IsKeyIter it d (i + 1) es.size ep → Heap.SameBut it s.heap h' → Q (some e.key) { s with heap := h' }) : wpAny (model P w) A (pyNext (.ref it)) Q E s := by
  obtain ⟨oi, ei, ci, di⟩ := id hi
  obtain ⟨ob, eb, cb, db⟩ := r
  unfold pyNext
  refine wpAny_bind (wpAny_attempt (wpAny_callSpecial?_slot (name := Str.ofString "__next__") hi.typeIs F.slot_dict_keyiterator_next (wpAny_call_entry F.slot_dict_keyiterator_next hi.typeIs F.entry_dict_keyiterator_next ?_ (F.args_dict_keyiterator_next_1 _))))
  refine wpAny_bind (wpAny_pure (wpAny_bind (wpAny_bind ?_)))
  first | refine wpAny_bind (wpAny_typeNameOfWhole_keyiter hi.typeIs (wpAny_pure (wpAny_bind (wpAny_fieldsOf ei di ?_)))) | refine wpAny_bind (wpAny_typeNameOf_keyiter hi.typeIs (wpAny_pure (wpAny_bind (wpAny_fieldsOf ei di ?_))))
  simp only [show Builtin.Dict_items.ownsTuple "dict_keyiterator" = false by decide, Bool.false_eq_true, if_false]
  show wpAny _ _ (ite ((Value.ref d == Value.none) = true) _ _) _ _ s
  rw [if_neg (by exact Bool.false_ne_true)]
  refine wpAny_bind (wpAny_pure (wpAny_bind (wpAny_dictEntries eb db ?_)))
  rw [if_neg (by simp)]
  refine wpAny_bind (wpAny_pure (wpAny_bind (wpAny_dictEpoch eb db ?_)))
  rw [if_neg (by simp)]
  refine wpAny_pure ?_
  simp only [show ¬ ((i : Int) < 0) from by omega, if_false, Int.toNat_natCast, he]
  refine wpAny_bind ?_
  first | refine wpAny_bind (wpAny_typeNameOfWhole_keyiter hi.typeIs (wpAny_pure (wpAny_bind (wpAny_isOneOf_keyiter hi.typeIs ?_)))) | refine wpAny_bind (wpAny_typeNameOf_keyiter hi.typeIs (wpAny_pure (wpAny_bind (wpAny_isOneOf_keyiter hi.typeIs ?_))))
  show wpAny _ _ (setField (Value.ref it) 1 (rawInt ((i : Int) + 1)) >>= _) _ _ s
  refine wpAny_bind (wpAny_setField ei di (by simp) ?_)
  have hi2 : (s.heap.update it (Obj.mapFields (·.setIfInBounds 1 (rawInt ((i : Int) + 1))))).IsKeyIter it d (i + 1) es.size ep := ⟨_, Heap.get?_update_self _ ei (Obj.isFreed_of_fields (Obj.data_mapFields di _)), (Obj.cls_mapFields ..).trans ci, by
    rw [Obj.data_mapFields di]
    simp [rawInt]⟩
  refine wpAny_bind (wpAny_holding (wpAny_bind (wpAny_isOneOf_keyiter (s := { s with heap := s.heap.update it (Obj.mapFields (·.setIfInBounds 1 (rawInt ((i : Int) + 1)))) }) hi2.typeIs ?_)))
  show wpAny _ _ (pure e.key) _ _ _
  exact wpAny_pure (wpAny_pure ⟨_, rfl, wpAny_pure (q _ hi2 (Heap.SameBut.update ..))⟩)
theorem raw_stop {it : Addr} {i : Nat} {Q : Option Value → Shared → Prop} (hA : A.handled = none) (hi : s.heap.IsKeyIter it d i es.size ep) (r : RawAt s.heap d es ep) (he : es[i]? = none)
    (q : ∀ h', Heap.ExtBut it s.heap h' → Q none { s with heap := h' }) : wpAny (model P w) A (pyNext (.ref it)) Q E s := by
  obtain ⟨oi, ei, ci, di⟩ := id hi
  obtain ⟨ob, eb, cb, db⟩ := r
  unfold pyNext
  refine wpAny_bind (wpAny_attempt (wpAny_callSpecial?_slot (name := Str.ofString "__next__") hi.typeIs F.slot_dict_keyiterator_next (wpAny_call_entry F.slot_dict_keyiterator_next hi.typeIs F.entry_dict_keyiterator_next ?_ (F.args_dict_keyiterator_next_1 _))))
  refine wpAny_bind (wpAny_pure (wpAny_bind (wpAny_bind ?_)))
  first | refine wpAny_bind (wpAny_typeNameOfWhole_keyiter hi.typeIs (wpAny_pure (wpAny_bind (wpAny_fieldsOf ei di ?_)))) | refine wpAny_bind (wpAny_typeNameOf_keyiter hi.typeIs (wpAny_pure (wpAny_bind (wpAny_fieldsOf ei di ?_))))
  simp only [show Builtin.Dict_items.ownsTuple "dict_keyiterator" = false by decide, Bool.false_eq_true, if_false]
  show wpAny _ _ (ite ((Value.ref d == Value.none) = true) _ _) _ _ s
  rw [if_neg (by exact Bool.false_ne_true)]
  refine wpAny_bind (wpAny_pure (wpAny_bind (wpAny_dictEntries eb db ?_)))
  rw [if_neg (by simp)]
  refine wpAny_bind (wpAny_pure (wpAny_bind (wpAny_dictEpoch eb db ?_)))
  rw [if_neg (by simp)]
  refine wpAny_pure ?_
  simp only [show ¬ ((i : Int) < 0) from by omega, if_false, Int.toNat_natCast, he]
  refine wpAny_bind ?_
  first | refine wpAny_bind (wpAny_typeNameOfWhole_keyiter hi.typeIs (wpAny_pure ?_)) | refine wpAny_bind (wpAny_typeNameOf_keyiter hi.typeIs (wpAny_pure ?_))
  show wpAny _ _ (setField (Value.ref it) 0 .none >>= _) _ _ s
  refine wpAny_bind (wpAny_setField ei di (by simp) ?_)
  show wpAny _ _ (newExc (Value.type "StopIteration") [] >>= _) _ _ _
  refine wpAny_bind ?_
  simp only [newTuple, newExc]
  refine wpAny_bind (wpAny_newObj_type (wpAny_bind (m := firstArgMember _ _) (wpAny_of_eq (a := Value.none) (by first | rfl | (simp only [firstArgMember]; rfl)) (wpAny_newObj_type ?_ (by size_fits)))) (by size_fits))
  simp only [raiseNew]
  refine wpAny_bind (wpAny_handled ?_)
  rw [show A.in1.handled = none from hA]
  refine wpAny_bind (wpAny_pure (wpAny_throw ?_))
  exact wpAny_bind (wpAny_isInstance (T := "StopIteration") (b := true) ⟨_, Heap.get?_push_size _ rfl, rfl⟩ isSubtype_stop (wpAny_pure (q _ (((Heap.SameBut.update ..).extBut.push _).push _))))
end
noncomputable def KeyAt (H : Hp) (v : V) (kv : List Key × V) : Prop := ∃ b, v = .ref b ∧ H b = some (.tup (kv.1.map kV))
section
variable {X : Cx}
end
end L2
set_option Elab.async false
set_option linter.all false
set_option maxRecDepth 100000
set_option maxHeartbeats 4000000
namespace L2
open PySem PySem.Spec PyProof.Rows PySem.W
section
variable {X : Cx} {pins : List (Addr × Obj)} {σ : List (Option V)} {H : Hp} {s : Shared}
theorem Inv.freeze {d : Addr} {o : Obj} {u : HO} (I : Inv X pins σ H s) (h : H d = some u) (n1 : ∀ xs, u ≠ .tup xs) (n2 : ∀ o' u', u ≠ .frz o' u') (n3 : ∀ ps, u ≠ .tbl ps) (n4 : ∀ a, u ≠ .own a) (ho : s.heap.get? d = some o) : Inv X pins σ (upd H d (.frz o u)) s := by
  have ne : ∀ {b : Addr} {v : HO}, H b = some v → v ≠ u → b ≠ d := fun {b v} e hv z => by
    rw [z, h] at e
    exact hv (Option.some.inj e).symm
  have kt : ∀ (b : Addr) (xs : List V), H b = some (.tup xs) → upd H d (.frz o u) b = some (.tup xs) := fun b xs e => by
    rw [upd_ne (ne e fun z => n1 xs z.symm)]
    exact e
  have ko : ∀ (a b : Addr), H b = some (.own a) → upd H d (.frz o u) b = some (.own a) := fun a b e => by
    rw [upd_ne (ne e fun z => n4 a z.symm)]
    exact e
  refine I.step (h' := s.heap) (g' := s.gens) (d' := s.drawn) (t' := s.toks) (ch := []) (fun _ z => nomatch z) (fun b ob _ _ _ e _ => e) (fun b ob _ _ _ e _ => ⟨ob.slots, e⟩)
    (fun b ob _ _ n => by rw [upd_ne (fun z => by rw [z, h] at n; cases n)]; exact n) (fun b ob _ e => ⟨ob, e⟩) kt
    (fun b ob v e => by rw [upd_ne (ne e fun z => n2 ob v z.symm)]; exact e) (fun b ps e => ⟨#[], by rw [upd_ne (ne e fun z => n3 ps z.symm), e]; simp⟩) (fun m hm => hm) (fun b v e => ?_) I.bare
  by_cases hb : b = d
  · subst hb
    rw [upd_same] at e
    cases e
    exact ⟨ho, (I.hok b u h).stay (fun c w _ q => q) (fun c q => ko b c q) kt⟩
  · rw [upd_ne hb] at e
    exact (I.hok b v e).stay (fun c w _ q => q) (fun c q => ko b c q) kt
end
noncomputable def ItD (d : Addr) (o : Obj) (u : HO) (ks : List V) : It := ⟨fun i H => H d = some (.frz o u) ∧ i < ks.length, fun i H x H' => H' = H ∧ ks[i]? = some x, fun i H => H d = some (.frz o u) ∧ ks.length ≤ i⟩
theorem turn_dict {P : Program} {w : World} {K : PySem.W.Frag} {tg : Expr} {d it : Addr} {o : Obj} {u : HO} {ks : List V} {es : Array DictEntry} {ep : Nat} (hx : o.ExactDict) (hd : o.data = .dict es ep) (hl : ks.length = es.size) (hk : ∀ (i : Nat) (k : V), ks[i]? = some k → ∃ e : DictEntry, es[i]? = some e ∧ RelV k e.key) :
    Turn P w K tg (ItD d o u ks) [it] it (fun i h => h.IsKeyIter it d i es.size ep) where
  mem := by simp
  obj := fun i h st b hb => by
    have z : b = it := by simpa using hb
    subst z
    obtain ⟨oi, ei, ci, di⟩ := st
    exact ⟨oi, ei, fun v y => by rw [di] at y; cases y⟩
  keep := fun i h h' st kp => st.at fun ob e => kp it (by simp) ob e
  item := by
    intro X hP hw hK hc i pins s σ H E I hf st hg
    subst hP hw hK
    obtain ⟨hfz, hi⟩ := hg
    have hod : s.heap.get? d = some o := (show ObjOk X.prog X.w H s.heap d (.frz o u) from I.hok d _ hfz).1
    obtain ⟨k, hki⟩ : ∃ k, ks[i]? = some k := ⟨ks[i], by simp [hi]⟩
    obtain ⟨e, he, hr⟩ := hk i k hki
    obtain ⟨f0, f1, f2, f3, f4, f5⟩ := hf it (by simp)
    refine raw_item st ⟨o, hod, hx, hd⟩ he fun h' st' sb => ?_
    have I1 : Inv X pins σ H { s with heap := h' } := I.turned (t' := s.toks) (fun b ob hb e => (sb.2 b hb).trans e) f0 f1 f3 f4 f5
    obtain ⟨oi, ei, ci, di⟩ := id st'
    exact ⟨e.key, rfl, go_of (s := { s with heap := h' }) ei ci di (by decide) ⟨k, H, I1, hr, ⟨rfl, hki⟩, st', fun b hb => (hf b hb).1⟩⟩
  done := by
    intro X hP hw hK hc i pins s σ H E I hf st hg
    subst hP hw hK
    obtain ⟨hfz, hi⟩ := hg
    have hod : s.heap.get? d = some o := (show ObjOk X.prog X.w H s.heap d (.frz o u) from I.hok d _ hfz).1
    obtain ⟨f0, f1, f2, f3, f4, f5⟩ := hf it (by simp)
    exact raw_stop (I.ok.hd hc) st ⟨o, hod, hx, hd⟩ (by simp; omega) fun h' eb => ⟨rfl, I.turned (t' := s.toks) (fun b ob hb e => eb b ob hb e) f0 f1 f3 f4 f5⟩
  self := fun _ _ _ _ _ st h => wpAny_pyIter_keyiter st h
section
variable {X : Cx} {tg : Expr}
theorem keys_rawT {H : Hp} {h : Heap} {d : Addr} {kvs : List (List Key × V)} (ok : ObjOk X.prog X.w H h d (.dT kvs)) : ∃ (o : Obj) (es : Array DictEntry) (ep : Nat) (vs : List V), h.get? d = some o ∧ o.ExactDict ∧ o.data = .dict es ep ∧ (d == sysModules) = false ∧ Paired (KeyAt H) vs kvs ∧ vs.length = es.size ∧ ∀ (i : Nat) (k : V), vs[i]? = some k → ∃ e : DictEntry, es[i]? = some e ∧ RelV k e.key := by
  obtain ⟨z, lo, xs, rel, o, es, ep, h1, h2, h3, h4, h5⟩ := ok
  have rel' : KT H kvs xs := rel
  have l1 : kvs.length = xs.length := Paired.length rel
  have l2 : es.size = xs.length := by rw [← Array.length_toList, h4, List.length_map]
  have hget : ∀ i, es[i]? = (xs[i]?).map (entryOfKey (tupleKind (mixKind X.prog X.w))) := fun i => by
    rw [← Array.getElem?_toList, h4, List.getElem?_map]
  refine ⟨o, es, ep, xs.map fun x => V.ref x.2.1, h1, h2, h3, lo, ?_, by rw [List.length_map, l2], fun i k e => ?_⟩
  · have : ∀ {kvs : List (List Key × V)} {xs : List (List Key × Addr × Value)}, KT H kvs xs → Paired (KeyAt H) (xs.map fun x => V.ref x.2.1) kvs := by
      intro kvs xs r
      induction r with
      | nil => exact .nil
      | cons a _ ih => exact .cons ⟨_, rfl, a.2.1⟩ ih
    exact this rel'
  · rw [List.getElem?_map] at e
    cases hx : xs[i]? with
    | none => rw [hx] at e; cases e
    | some x =>
      rw [hx] at e
      have ek : V.ref x.2.1 = k := Option.some.inj e
      refine ⟨entryOfKey (tupleKind (mixKind X.prog X.w)) x, by rw [hget, hx]; rfl, ?_⟩
      rw [← ek]
      rfl
noncomputable def iDictT (te : TE) : TI := fun σ H R => te σ H fun x H1 => ∃ d kvs, x = .ref d ∧ H1 d = some (.dT kvs) ∧ ∀ o vs, Paired (KeyAt H1) vs kvs → R (ItD d o (.dT kvs) vs) (upd H1 d (.frz o (.dT kvs)))
theorem pi_dictT {l : Expr} {tl : TE} (hl : PE X l tl) : PI X tg l (iDictT tl) := by
  intro pins s σ H R I h
  refine thn (hl pins s σ H _ I h) fun v s1 hpat => ?_
  obtain ⟨x, H1, I1, r1, q1⟩ := hpat
  obtain ⟨d, kvs, e, hd, q⟩ := q1
  subst e
  cases r1
  obtain ⟨o, es, ep, vs, h1, h2, h3, lo, hp, hlen, hks⟩ := keys_rawT (X := X) (I1.hok d _ hd)
  have I2 := I1.freeze hd (fun _ z => nomatch z) (fun _ _ z => nomatch z) (fun _ z => nomatch z) (fun _ z => nomatch z) h1
  refine raw_iter lo ⟨o, h1, h2, h3⟩ ?_
  refine ⟨s1.heap.objs.size, [s1.heap.objs.size], _, _, _, rfl, I2.kept (t' := s1.toks) fun b ob e => Heap.get?_push_of_some _ e, turn_dict h2 h3 hlen hks, ⟨_, Heap.get?_push_size _ rfl, rfl, rfl⟩, fun b hb => ?_, q o vs hp⟩
  have z : b = s1.heap.objs.size := by simpa using hb
  subst z
  exact I2.fpOk (Nat.le_refl _) (I2.hok.fresh (Nat.le_refl _))
end
theorem for_dict {d : Addr} {o : Obj} {u : HO} {ks : List V} {g : TG} {tb : TS} {D : Ends} {σ : St} {H : Hp} (Pv : Nat → St → Hp → Prop) (h0 : Pv 0 σ H) (hl : ∀ i σ H, i ≤ ks.length → Pv i σ H → H d = some (.frz o u)) (hs : ∀ (i : Nat) (k : V) σ H, ks[i]? = some k → Pv i σ H → g k σ H fun σ2 H2 => tb { D with nx := Pv (i + 1), ct := Pv (i + 1), bk := D.nx } σ2 H2) (hd : ∀ σ H, Pv ks.length σ H → D.nx σ H) :
    ∃ W : Nat → Nat → St → Hp → Prop, (∃ m, W 0 m σ H) ∧ ∀ i m σ H, W i m σ H →
      ((ItD d o u ks).stop i H ∧ D.nx σ H) ∨ ((ItD d o u ks).go i H ∧ ∃ N : St → Hp → Prop, (∀ σ' H', N σ' H' → ∃ m', m' < m ∧ W (i + 1) m' σ' H') ∧ ∀ y H', (ItD d o u ks).yld i H y H' → g y σ H' fun σ2 H2 => tb { D with nx := N, ct := N, bk := D.nx } σ2 H2) := by
  refine ⟨fun i m σ H => m = ks.length - i ∧ i ≤ ks.length ∧ Pv i σ H, ⟨_, rfl, Nat.zero_le _, h0⟩, ?_⟩
  rintro i m σ H ⟨rfl, hi, p⟩
  have q := hl i σ H hi p
  by_cases hlt : i < ks.length
  · refine .inr ⟨⟨q, hlt⟩, Pv (i + 1), fun σ' H' p' => ⟨ks.length - (i + 1), by omega, rfl, hlt, p'⟩, ?_⟩
    rintro y H' ⟨rfl, hy⟩
    exact hs i y σ _ hy p
  · have e : i = ks.length := by omega
    subst e
    exact .inl ⟨⟨q, Nat.le_refl _⟩, hd σ H p⟩
end L2
set_option Elab.async false
set_option linter.all false
set_option maxRecDepth 100000
set_option maxHeartbeats 4000000
namespace RV
open PySem PySem.Spec PyProof.Rows
theorem own_rv : Manifest.owners.lookup (String.ofList ['d', 'e', 's', 'r', 'e', 'v', 'e', 'r'].reverse) = some Manifest.sig_reversed := by kernel_rfl
theorem rv_next : Slot "reversed" "__next__" "reversed.__next__" :=
  .of (owner := "reversed") (n := "__next__") (by rw [typeLookup_type, builtinLookup_eq_fast]; kernel_rfl) (by decide +kernel) (by decide +kernel) (by decide +kernel)
    (by first | exact .inl (by decide +kernel) | exact .inr (by decide +kernel)) (by rw [isSubtype_type]; kernel_rfl)
theorem rv_iter : Slot "reversed" "__iter__" "reversed.__iter__" :=
  .of (owner := "reversed") (n := "__iter__") (by rw [typeLookup_type, builtinLookup_eq_fast]; kernel_rfl) (by decide +kernel) (by decide +kernel) (by decide +kernel)
    (by first | exact .inl (by decide +kernel) | exact .inr (by decide +kernel)) (by rw [isSubtype_type]; kernel_rfl)
theorem en_next : entryFor table "reversed.__next__" = some Builtin.«reversed.__next__» := entryFor_of_tree (by kernel_rfl)
theorem en_iter : entryFor table "reversed.__iter__" = some Builtin.«dict_keyiterator.__iter__» :=
  entryFor_alias (id' := "dict_keyiterator.__iter__") (by kernel_rfl) (by first | rfl | decide +kernel | (unfold String.splitOn; simp +decide [String.splitOnAux])) (by decide +kernel) (by kernel_rfl)
theorem ar_next (a : Value) : argsOk "reversed.__next__" ⟨[a], []⟩ := by
  unfold argsOk; rw [signature?_of (id := "reversed.__next__") (n := ['_', '_', 't', 'x', 'e', 'n', '_', '_']) (o := ['d', 'e', 's', 'r', 'e', 'v', 'e', 'r']) (by kernel_rfl) own_rv]; kernel_rfl
theorem ar_iter (a : Value) : argsOk "reversed.__iter__" ⟨[a], []⟩ := by
  unfold argsOk; rw [signature?_of (id := "reversed.__iter__") (n := ['_', '_', 'r', 'e', 't', 'i', '_', '_']) (o := ['d', 'e', 's', 'r', 'e', 'v', 'e', 'r']) (by kernel_rfl) own_rv]; kernel_rfl
theorem no_rev : typeLookup (.type "tuple") "__reversed__" = pure none := by rw [typeLookup_type, builtinLookup_eq_fast]; kernel_rfl
theorem tup_dict : isSubtype (.type "tuple") (.type "dict") = pure false := by rw [isSubtype_type]; kernel_rfl
theorem rv_rv : isSubtype (.type "reversed") (.type "reversed") = pure true := by rw [isSubtype_type]; kernel_rfl
theorem rv_init : Slot "reversed" "__init__" "object.__init__" :=
  .of (owner := "object") (n := "__init__") (by rw [typeLookup_type, builtinLookup_eq_fast]; kernel_rfl) (by decide +kernel) (by decide +kernel) (by decide +kernel)
    (by first | exact .inl (by decide +kernel) | exact .inr (by decide +kernel)) (by rw [isSubtype_type]; kernel_rfl)
theorem rv_called : TypeCalled "reversed" "reversed.__new__" "object.__init__" :=
  ⟨by decide +kernel, by decide +kernel, ⟨_, _, F.mro_reversed⟩, F.made_reversed, by decide +kernel, rv_rv, rv_init⟩
end RV
set_option Elab.async false
set_option linter.all false
set_option maxRecDepth 100000
set_option maxHeartbeats 4000000
namespace RV
open PySem PySem.Spec PyProof.Rows
noncomputable def revT (t : Addr) (i : Int) : Obj := { cls := .type "reversed", data := .fields #[.ref t, rawInt i] }
noncomputable def IsRevT (h : Heap) (a t : Addr) (i : Int) : Prop := ∃ o, h.get? a = some o ∧ o.cls = .type "reversed" ∧ o.data = .fields #[.ref t, rawInt i]
theorem IsRevT.move {h h' : Heap} {a t : Addr} {i : Int} (x : IsRevT h a t i) (e : ∀ o, h.get? a = some o → h'.get? a = some o) : IsRevT h' a t i := by
  obtain ⟨o, ho, r⟩ := x
  exact ⟨o, e o ho, r⟩
section
variable {prog : Program} {w : World} {A : Around} {E : Value → Shared → Prop} {s : Shared}
theorem IsRevT.ty {a t : Addr} {i : Int} (x : IsRevT s.heap a t i) : s.TypeIs (.ref a) "reversed" := by
  obtain ⟨o, ho, hc, _⟩ := x
  exact ⟨o, ho, hc⟩
theorem made_new {t : Addr} {its : Array Value} {Q₁ : Value → Shared → Prop} (ht : IsTup s.heap t its) (hz : its.size ≤ sizeLine)
    (q : ∀ tk, Q₁ (.ref s.heap.objs.size) { s with heap := s.heap.push (revT t ((its.size : Int) - 1)), toks := tk }) :
    codeAny (model prog w) A (.call (.builtin "reversed.__new__") ⟨[.type "reversed", .ref t], []⟩) (wants Q₁ E) s := by
  refine codeAny_of_tree ?_
  show wpAny _ A.in1 (checkBuiltinCall "reversed.__new__" ⟨[.type "reversed", .ref t], []⟩ >>= fun _ => again (.builtin "reversed.__new__" ⟨[.type "reversed", .ref t], []⟩)) _ _ s
  refine wpAny_bind (wpAny_of_eq (F.newCall_reversed_1 _) (wpAny_pure ⟨plainId_quiet F.plain_reversed_new _, codeAny_builtin F.entry_reversed_new ?_⟩))
  rw [Around.under_plainId F.plain_reversed_new _]
  unfold Builtin.«reversed.__new__»
  refine wpAny_bind (wpAny_of_eq (newClass_reversed _) ?_)
  try dsimp only
  refine wpAny_bind (wpAny_of_eq (a := ()) (by first | rfl | kernel_rfl) ?_)
  refine wpAny_bind (wpAny_of_eq (a := ()) (by first | rfl | kernel_rfl) ?_)
  try dsimp only
  refine wpAny_bind (wpAny_specialOf ht.typeIs no_rev ?_)
  try dsimp only
  refine wpAny_bind (wpAny_bind (wpAny_isInstance ht.typeIs tup_dict ?_))
  rw [if_neg Bool.false_ne_true]
  refine wpAny_bind (wpAny_specialOf ht.typeIs slot_tuple_getitem.lookup ?_)
  show wpAny _ _ (if (["tuple.__getitem__", "str.__getitem__", "bytes.__getitem__", "bytearray.__getitem__", "memoryview.__getitem__", "numpy.ndarray.__getitem__", "sqlite3.Row.__getitem__"].contains "tuple.__getitem__") = true then pure true else _) _ _ s
  rw [if_pos (by decide +kernel)]
  refine wpAny_pure ?_
  rw [if_neg (by decide)]
  have hfit : (its.size : Int) < 2 ^ 63 := by have : sizeLine = 16777216 := sizeLine_eq; omega
  refine wpAny_bind (len_tuple ht hfit ?_)
  refine wpAny_bind (wpAny_of_eq (a := some (its.size : Int)) rfl ?_)
  show wpAny _ _ (newObj (Value.type "reversed") (.fields #[Value.ref t, rawInt ((its.size : Int) - 1)]) >>= _) _ _ _
  refine wpAny_bind (wpAny_newObj_type (wpAny_pure ?_))
  exact q _
theorem call_rev {t : Addr} {its : Array Value} {Q : Value → Shared → Prop} (ht : IsTup s.heap t its) (hz : its.size ≤ sizeLine)
    (q : ∀ tk, Q (.ref s.heap.objs.size) { s with heap := s.heap.push (revT t ((its.size : Int) - 1)), toks := tk }) : wpAny (model prog w) A (call (.type "reversed") [.ref t]) Q E s := by
  refine callType_codes (Q₁ := fun obj s₁ => s₁.TypeIs obj "reversed" ∧ Q obj s₁) rv_called (F.typeCall_reversed_1 _) F.entry_object_init (made_new ht hz fun tk => ⟨⟨_, Heap.get?_push_size _ rfl, rfl⟩, q tk⟩) fun obj s₁ h₁ => ?_
  exact ⟨h₁.1, F.args_object_init_2 obj _, object_init_meets rv_called.init.lookup rv_called.made (by decide) prog w A.in1 _ s₁ ⟨h₁.1, rfl, h₁.2⟩⟩
theorem next_item {it t : Addr} {i : Nat} {its : Array Value} {x : Value} {Q : Option Value → Shared → Prop} (hit : IsRevT s.heap it t (i : Int)) (ht : IsTup s.heap t its) (hx : its[i]? = some x) (hz : its.size ≤ sizeLine)
    (q : ∀ h' tk, IsRevT h' it t ((i : Int) - 1) → Heap.SameBut it s.heap h' → Q (some x) { s with heap := h', toks := tk }) : wpAny (model prog w) A (pyNext (.ref it)) Q E s := by
  obtain ⟨o, ho, hc, hd⟩ := id hit
  have hi : i < its.size := by
    obtain ⟨z, _⟩ := Array.getElem?_eq_some_iff.mp hx
    exact z
  have hsl : sizeLine = 16777216 := sizeLine_eq
  have hneg : ¬ ((i : Int) < 0) := by omega
  have hseq : seqIndex? (i : Int) its.size = some i := by simp [seqIndex?, hneg, hi]
  unfold pyNext
  refine wpAny_bind (wpAny_attempt (wpAny_callSpecial?_slot (name := Str.ofString "__next__") hit.ty rv_next (wpAny_call_entry rv_next hit.ty en_next ?_ (ar_next _))))
  unfold Builtin.«reversed.__next__»
  refine wpAny_bind (wpAny_of_eq (a := (Value.ref it, [])) rfl ?_)
  try dsimp only
  refine wpAny_bind (wpAny_field ho hd (x := .ref t) rfl ?_)
  refine wpAny_bind (wpAny_field ho hd (x := rawInt (i : Int)) rfl ?_)
  show wpAny _ _ (if (i : Int) < 0 then _ else _) _ _ s
  rw [if_neg (by omega)]
  refine wpAny_bind (wpAny_specialOf ht.typeIs slot_tuple_getitem.lookup ?_)
  rw [if_neg (by simp)]
  refine wpAny_bind (wpAny_mkInt ?_)
  refine wpAny_bind (wpAny_attempt (getItem_tuple (s := { s with toks := s.toks + 1 }) ht (by omega) (by omega) hseq hx ?_))
  show wpAny _ _ (field (Value.ref it) 1 >>= _) _ _ _
  refine wpAny_bind (wpAny_field (s := { s with toks := s.toks + 1 }) ho hd (x := rawInt (i : Int)) rfl ?_)
  show wpAny _ _ (setField (Value.ref it) 1 (rawInt ((i : Int) - 1)) >>= _) _ _ _
  refine wpAny_bind (wpAny_setField (s := { s with toks := s.toks + 1 }) ho hd (by simp) ?_)
  refine wpAny_pure ⟨x, rfl, wpAny_pure (q _ _ ?_ (Heap.SameBut.update ..))⟩
  exact ⟨_, Heap.get?_update_self _ ho (Obj.isFreed_of_fields (Obj.data_mapFields hd _)), (Obj.cls_mapFields ..).trans hc, by
    rw [Obj.data_mapFields hd]
    simp⟩
theorem next_end {it t : Addr} {Q : Option Value → Shared → Prop} (hh : A.handled = none) (hit : IsRevT s.heap it t (-1))
    (q : ∀ h' tk, Heap.ExtBut it s.heap h' → Q none { s with heap := h', toks := tk }) : wpAny (model prog w) A (pyNext (.ref it)) Q E s := by
  obtain ⟨o, ho, hc, hd⟩ := id hit
  unfold pyNext
  refine wpAny_bind (wpAny_attempt (wpAny_callSpecial?_slot (name := Str.ofString "__next__") hit.ty rv_next (wpAny_call_entry rv_next hit.ty en_next ?_ (ar_next _))))
  unfold Builtin.«reversed.__next__»
  refine wpAny_bind (wpAny_of_eq (a := (Value.ref it, [])) rfl ?_)
  try dsimp only
  refine wpAny_bind (wpAny_field ho hd (x := .ref t) rfl ?_)
  refine wpAny_bind (wpAny_field ho hd (x := rawInt (-1)) rfl ?_)
  show wpAny _ _ (if (-1 : Int) < 0 then _ else _) _ _ s
  rw [if_pos (by decide)]
  refine wpAny_bind (wpAny_rule ?_)
  refine wpAny_bind (wpAny_bind (wpAny_setField ho hd (by simp) ?_))
  have h1 := Heap.get?_update_self (Obj.mapFields (·.setIfInBounds 1 (rawInt (-1)))) ho (Obj.isFreed_of_fields (Obj.data_mapFields hd _))
  refine wpAny_setField h1 (Obj.data_mapFields hd _) (by simp) ?_
  refine wpAny_bind ?_
  show wpAny _ _ (newExc (Value.type "StopIteration") [] >>= _) _ _ _
  refine wpAny_bind ?_
  simp only [newTuple, newExc]
  refine wpAny_bind (wpAny_newObj_type (wpAny_bind (m := firstArgMember _ _) (wpAny_of_eq (a := Value.none) (by first | rfl | (simp only [firstArgMember]; rfl)) (wpAny_newObj_type ?_ (by size_fits)))) (by size_fits))
  simp only [raiseNew]
  refine wpAny_bind (wpAny_handled ?_)
  rw [show A.in1.handled = none from hh]
  refine wpAny_bind (wpAny_pure (wpAny_throw ?_))
  exact wpAny_bind (wpAny_isInstance (T := "StopIteration") (b := true) ⟨_, Heap.get?_push_size _ rfl, rfl⟩ isSubtype_stop (wpAny_pure (q _ _ ((((Heap.SameBut.update ..).trans (Heap.SameBut.update ..)).extBut.push _).push _))))
theorem iter_self {it t : Addr} {i : Int} {Q : Value → Shared → Prop} (hit : IsRevT s.heap it t i) (h : Q (.ref it) s) : wpAny (model prog w) A (pyIter (.ref it)) Q E s := by
  refine wpAny_pyIter_slot hit.ty rv_iter (wpAny_call_entry rv_iter hit.ty en_iter ?_ (ar_iter _))
  show wpAny _ _ (ret (.ref it)) _ _ s
  exact wpAny_pure ⟨_, rfl, "reversed", _, hit.ty, rv_next.lookup, h⟩
end
end RV
set_option Elab.async false
set_option linter.all false
set_option maxRecDepth 100000
set_option maxHeartbeats 4000000
namespace RV
open PySem PySem.Spec PyProof.Rows
section
variable {prog : Program} {w : World} {A : Around} {E : Value → Shared → Prop} {s : Shared}
end
end RV
set_option Elab.async false
set_option linter.all false
set_option maxRecDepth 100000
set_option maxHeartbeats 4000000
namespace RV
open PySem PySem.Spec PyProof.Rows
section
variable {prog : Program} {w : World} {A : Around} {E : Value → Shared → Prop} {s : Shared}
end
end RV
set_option Elab.async false
set_option linter.all false
set_option maxRecDepth 100000
set_option maxHeartbeats 4000000
namespace L2
open PySem PySem.Spec PyProof.Rows PySem.W RV
section
variable {X : Cx} {e : Expr} {te : TE} {pos pos2 p p2 : Pos}
theorem ev_rev (he : PE X e te) (gR : Gl X "reversed") (mR : X.mg "reversed" = none) (hs : starEach [e] X.env = [(false, eval e X.env)] := by rfl)
    {pins : List (Addr × Obj)} {s : Shared} {σ : St} {H : Hp} {R : VK} {Q : Value → Shared → Prop} (I : Inv X pins σ H s) (h : te σ H R)
    (k : ∀ x H1 s1 a xs its tk, Inv X pins σ H1 s1 → R x H1 → x = .ref a → Vals xs its → IsTup s1.heap a its.toArray → its.toArray.size ≤ sizeLine → SqT X.K H1 a xs → Q (.ref s1.heap.objs.size) { s1 with heap := s1.heap.push (revT a ((its.toArray.size : Int) - 1)), toks := tk })
    (kr : ∀ x H1, R x H1 → ∃ a xs, x = .ref a ∧ SqT X.K H1 a xs) :
    wpAny (model X.prog X.w) X.A (eval (.Call (.Name "reversed" p2) [e] [] pos2) X.env) Q X.xe s := by
  refine wpAny_Call_Name_kw (ld_blt I gR mR boot_reversed ?_ (by decide) (by decide))
  refine PyProof.Rows.callWith_type1 ?_ hs (by rfl)
  rw [hs]
  refine Calls.spliced_cons (thn (he pins s σ H _ I h) fun u s1 hpat => ?_)
  obtain ⟨x, H1, I1, r1, q1⟩ := hpat
  obtain ⟨a, xs, rfl, ht⟩ := kr x H1 q1
  cases r1
  obtain ⟨its, hv, htup, hz⟩ := I1.tuple ht
  have hz' : its.toArray.size ≤ sizeLine := by have := hv.length; simp; omega
  refine Calls.spliced_nil ?_
  exact call_rev htup hz' fun tk => k _ H1 s1 a xs its tk I1 q1 rfl hv htup hz' ht
end
end L2
set_option Elab.async false
set_option linter.all false
set_option maxRecDepth 100000
set_option maxHeartbeats 4000000
namespace L2
open PySem PySem.Spec PyProof.Rows
section
variable {X : Cx}
end
end L2
set_option Elab.async false
set_option linter.all false
set_option maxRecDepth 100000
set_option maxHeartbeats 4000000
namespace RG
open PySem PySem.Spec PyProof.Rows
section
variable {prog : Program} {w : World} {A : Around} {E : Value → Shared → Prop} {s : Shared}
variable {I : Addr} {fp : List Addr} {n : Nat} {P : Nat → Value → Prop} {St : Nat → Heap → Prop} {T : String}
end
end RG
set_option Elab.async false
set_option linter.all false
set_option maxRecDepth 100000
set_option maxHeartbeats 4000000
namespace RG
open PySem PySem.Spec PyProof.Rows
section
variable {prog : Program} {w : World} {A : Around} {E : Value → Shared → Prop} {s : Shared}
end
end RG
namespace L2
open PySem PySem.Spec PyProof.Rows PySem.W RG
section
variable {X : Cx} {e : Expr} {te : TE} {pos pos2 pos3 p p2 p3 : Pos}
end
end L2
set_option Elab.async false
set_option linter.all false
set_option maxRecDepth 100000
set_option maxHeartbeats 4000000
namespace L2
open PySem PySem.Spec PyProof.Rows
section
variable {X : Cx}
end
end L2
set_option Elab.async false
set_option linter.all false
set_option maxRecDepth 100000
set_option maxHeartbeats 4000000
namespace L2
open PySem PySem.Spec PyProof.Rows
section
variable {X : Cx}
end
end L2
set_option Elab.async false
set_option linter.all false
set_option maxRecDepth 100000
set_option maxHeartbeats 4000000
namespace L2
open PySem PySem.Spec PyProof.Rows
noncomputable def HasM (K : PySem.W.Frag) (C : Addr) (m qual : Str) (st : Stmt) : Prop := ∃ f fd, Fun K m qual st f fd ∧ Meth K C m f
noncomputable def HasI (K : PySem.W.Frag) (C : Addr) (qual : Str) (st : Stmt) : Prop := ∃ f fd, Fun K "__init__" qual st f fd ∧ Mk K C f
theorem hasM_mk {K : PySem.W.Frag} {C : Addr} {m qual : Str} {st : Stmt} {f : Addr} {oc : Value} {od an : Option Addr} {osl : Array (Option Value)} {kV doc pm cdv ct : Value}
    (a : PySem.W.findIn K (.ref C) m = some (some (.ref f))) (i : PySem.W.isFn K (.ref f) = true) (l : K.lookup f = some ⟨oc, od, .func (PySem.W.fnOf m qual (defArgs st) (defBody st) (defScope st) .none kV doc pm an cdv ct), osl⟩)
    (c : PySem.W.codeIn K cdv qual = true) (k : PySem.W.keepIn K (.ref f) = true) : HasM K C m qual st := ⟨f, _, fun_mk l c k, ⟨a, i, k⟩⟩
theorem hasI_mk {K : PySem.W.Frag} {C : Addr} {qual : Str} {st : Stmt} {f : Addr} {oc : Value} {od an : Option Addr} {osl : Array (Option Value)} {kV doc pm cdv ct : Value}
    (mk : PySem.W.makesIn K C = true) (a : PySem.W.findIn K (.ref C) "__init__" = some (some (.ref f))) (i : PySem.W.isFn K (.ref f) = true) (kc : PySem.W.keepIn K (.ref C) = true) (l : K.lookup f = some ⟨oc, od, .func (PySem.W.fnOf "__init__" qual (defArgs st) (defBody st) (defScope st) .none kV doc pm an cdv ct), osl⟩)
    (c : PySem.W.codeIn K cdv qual = true) (k : PySem.W.keepIn K (.ref f) = true) : HasI K C qual st := ⟨f, _, fun_mk l c k, ⟨mk, a, i, kc⟩⟩
set_option genInjectivity false in
structure MCl (P : Program) (w : World) (K : PySem.W.Frag) (mg : Str → Option Value) (base : Heap) (k : Nat) (C : Addr) (m : Str) (ps : List Str) (sp : Sp) : Prop where
  ex : ∃ f fd, FnOk P w K mg base CX0 k f fd ps sp ∧ Meth K C m f ∧ Binds K fd ps []
set_option genInjectivity false in
structure ICl (P : Program) (w : World) (K : PySem.W.Frag) (mg : Str → Option Value) (base : Heap) (k : Nat) (x : Str) (C : Addr) (ps : List Str) (sp : Sp) : Prop where
  ex : ∃ f fd, FnOk P w K mg base CX0 k f fd ps sp ∧ Mk K C f ∧ mg x = some (.ref C) ∧ Binds K fd ps []
section
variable {P : Program} {w : World} {K : PySem.W.Frag} {mg : Str → Option Value} {base : Heap}
theorem MCl.of {C : Addr} {m qual : Str} {st : Stmt} {N ps : List Str} {k : Nat} {sp : Sp} (T : HasM K C m qual st) (S : FnScope N ps (defScope st)) (len : ∀ vs H Q E, sp vs H Q E → vs.length = ps.length)
    (hb : ∀ (kV doc pm : Value) (an : Option Addr) (cdv ct : Value) (us : List Value), us.length = ps.length → bindArgs (PySem.W.fnOf m qual (defArgs st) (defBody st) (defScope st) .none kV doc pm an cdv ct) ⟨us, []⟩ = pure (ps.zip us))
    (hbody : ∀ (f : Addr) (cdv : Value) (A : Around) (outer : List Env) (s : Shared) (H : Hp) (vs : List V) (Q : VK) (E : XK), Room k (A.deeper (envOfC qual (defScope st) s.heap.objs.size f cdv)) → sp vs H Q E →
      ∃ t, PSs (cxOf CX0 P w K mg base N qual (defScope st) f cdv A outer s H E).nox (defBody st) t ∧ t { nx := fun _ H' => Q .non H', rt := Q } (start N vs) H) : MCl P w K mg base (k + 1) C m ps sp := by
  obtain ⟨f, fd, F, M⟩ := T
  exact ⟨f, fd, F.ok S len (fun cdv A outer s H vs Q E => hbody f cdv A outer s H vs Q E), M, F.binds hb⟩
theorem ICl.of {x : Str} {C : Addr} {qual : Str} {st : Stmt} {N ps : List Str} {k : Nat} {sp : Sp} (T : HasI K C qual st) (hm : mg x = some (.ref C)) (S : FnScope N ps (defScope st)) (len : ∀ vs H Q E, sp vs H Q E → vs.length = ps.length)
    (hb : ∀ (kV doc pm : Value) (an : Option Addr) (cdv ct : Value) (us : List Value), us.length = ps.length → bindArgs (PySem.W.fnOf "__init__" qual (defArgs st) (defBody st) (defScope st) .none kV doc pm an cdv ct) ⟨us, []⟩ = pure (ps.zip us))
    (hbody : ∀ (f : Addr) (cdv : Value) (A : Around) (outer : List Env) (s : Shared) (H : Hp) (vs : List V) (Q : VK) (E : XK), Room k (A.deeper (envOfC qual (defScope st) s.heap.objs.size f cdv)) → sp vs H Q E →
      ∃ t, PSs (cxOf CX0 P w K mg base N qual (defScope st) f cdv A outer s H E).nox (defBody st) t ∧ t { nx := fun _ H' => Q .non H', rt := Q } (start N vs) H) : ICl P w K mg base (k + 1) x C ps sp := by
  obtain ⟨f, fd, F, M⟩ := T
  exact ⟨f, fd, F.ok S len (fun cdv A outer s H vs Q E => hbody f cdv A outer s H vs Q E), M, hm, F.binds hb⟩
end
section
variable {X : Cx} {j k : Nat} {C : Addr} {x m : Str} {ps : List Str} {sp : Sp} {o e : Expr} {es : List Expr} {ta : TE} {t : TA} {p pos apos : Pos}
theorem pe_m {pl : Sem Bool} (M : MCl X.prog X.w X.K X.mg X.base j C m ps sp) (c : Cls X.K C) (hr : Room k X.A) (he : PE X o ta) (ha : PA X (e :: es) t) (hjk : j ≤ k := by decide)
    (hst : starEach (e :: es) X.env = (false, eval e X.env) :: starEach es X.env := by rfl) (hpl : (backTo pos (starEach es X.env)).any (·.1) = false := by rfl)
    (ht : eval (.Call (.Attribute o m apos) (e :: es) [] pos) X.env = (do
      let ov ← eval o X.env
      standAt apos.atName
      let (f, first) ← holding [ov] (getMethod ov m pl)
      callWith pos f first (backTo pos (starEach (e :: es) X.env)) (backToKw pos (keywordEach [] X.env))) := by rfl) :
    PE X (.Call (.Attribute o m apos) (e :: es) [] pos) (tMeth C m sp [] E0 ta t) := by
  obtain ⟨f, fd, F, hm, hb⟩ := M.ex
  exact pe_meth he c hm F (hr.mono hjk) hb .nil pass0 ha hst hpl ht
theorem pe_m0 {pl : Sem Bool} (M : MCl X.prog X.w X.K X.mg X.base j C m ps sp) (c : Cls X.K C) (hr : Room k X.A) (he : PE X o ta) (hjk : j ≤ k := by decide)
    (ht : eval (.Call (.Attribute o m apos) [] [] pos) X.env = (do
      let ov ← eval o X.env
      standAt apos.atName
      let (f, first) ← holding [ov] (getMethod ov m pl)
      callWith pos f first (backTo pos (starEach [] X.env)) (backToKw pos (keywordEach [] X.env))) := by rfl) :
    PE X (.Call (.Attribute o m apos) [] [] pos) (tMeth C m sp [] E0 ta tNil) := by
  obtain ⟨f, fd, F, hm, hb⟩ := M.ex
  exact pe_meth0 he c hm F (hr.mono hjk) hb .nil pass0 ht
theorem pe_mk (M : ICl X.prog X.w X.K X.mg X.base j x C ps sp) (hr : Room k X.A) (hg : Gl X x) (ha : PA X (e :: es) t) (hjk : j + 1 ≤ k := by decide) (hdb : (x == ("__debug__" : Str)) = false := by decide)
    (he : starEach (e :: es) X.env = (false, eval e X.env) :: starEach es X.env := by rfl) (hpl : (backTo pos (starEach es X.env)).any (·.1) = false := by rfl) :
    PE X (.Call (.Name x p) (e :: es) [] pos) (tMake C sp [] E0 t) := by
  obtain ⟨f, fd, F, M, hm, hb⟩ := M.ex
  exact pe_make M F (hr.mono hjk) hg hm hb .nil pass0 ha hdb he hpl
end
end L2
set_option Elab.async false
set_option linter.all false
set_option maxRecDepth 100000
set_option maxHeartbeats 4000000
namespace L2
open PySem PySem.Spec PyProof.Rows PySem.W RV
noncomputable def Itv (K : PySem.W.Frag) (a : Addr) (n : Nat) : It :=
  ⟨fun i H => i < n ∧ ∃ xs, SqT K H a xs ∧ xs.length = n, fun i H x H' => H' = H ∧ ∀ xs, SqT K H a xs → xs.length = n → xs.reverse[i]? = some x, fun i H => n ≤ i⟩
theorem turn_rev {P : Program} {w : World} {K : PySem.W.Frag} {tg : Expr} (a it : Addr) (n : Nat) : Turn P w K tg (Itv K a n) [it] it (fun i h => i ≤ n ∧ IsRevT h it a ((n : Int) - 1 - (i : Int))) where
  mem := by simp
  obj := fun i h st b hb => by
    have e : b = it := by simpa using hb
    subst e
    obtain ⟨_, o, e, c, d⟩ := st
    exact ⟨o, e, fun v z => by rw [d] at z; cases z⟩
  keep := fun i h h' st k => ⟨st.1, st.2.move fun o e => k it (by simp) o e⟩
  item := by
    intro X hP hw hK hc i pins s σ H E I hf st hg
    subst hP hw hK
    obtain ⟨hi, xs, hq, hn⟩ := hg
    obtain ⟨its, rv, p, hz⟩ := I.tuple hq
    have hl := rv.length
    obtain ⟨x, hx⟩ : ∃ x, xs[n - 1 - i]? = some x := ⟨xs[n - 1 - i]'(by omega), List.getElem?_eq_getElem (by omega)⟩
    obtain ⟨u, hu, ru⟩ := rv.get hx
    obtain ⟨f0, f1, f2, f3, f4, f5⟩ := hf it (by simp)
    have hit := st.2
    have e1 : (n : Int) - 1 - (i : Int) = ((n - 1 - i : Nat) : Int) := by omega
    rw [e1] at hit
    refine next_item (its := its.toArray) hit p (x := u) (by simpa using hu) (by simp; omega) fun h' tk hit' same => ?_
    have I1 : Inv X pins σ H { s with heap := h', toks := tk } := I.turned (t' := tk) (fun b o hb e => (same.2 b hb).trans e) f0 f1 f3 f4 f5
    have e2 : ((n - 1 - i : Nat) : Int) - 1 = (n : Int) - 1 - ((i + 1 : Nat) : Int) := by omega
    rw [e2] at hit'
    obtain ⟨o, e, c, d⟩ := id hit'
    refine ⟨u, rfl, go_of (s := { s with heap := h', toks := tk }) e c d (by decide) ⟨x, H, I1, ru, ⟨rfl, fun ys hy _ => ?_⟩, ⟨hi, hit'⟩, fun b hb => (hf b hb).1⟩⟩
    rw [I.tuple_inj hy hq, List.getElem?_reverse (by omega), hn]
    exact hx
  done := by
    intro X hP hw hK hc i pins s σ H E I hf st hg
    subst hP hw hK
    obtain ⟨f0, f1, f2, f3, f4, f5⟩ := hf it (by simp)
    have hit := st.2
    have hin : n ≤ i := hg
    have e1 : (n : Int) - 1 - (i : Int) = -1 := by have := st.1; omega
    rw [e1] at hit
    exact next_end (I.ok.hd hc) hit fun h' tk eb => ⟨rfl, I.turned (t' := tk) (fun b o hb e => eb b o hb e) f0 f1 f3 f4 f5⟩
  self := fun _ _ _ _ _ st h => iter_self st.2 h
noncomputable def iRev (K : PySem.W.Frag) (te : TE) : TI := fun σ H R => te σ H fun x H1 => ∃ a xs, x = .ref a ∧ SqT K H1 a xs ∧ R (Itv K a xs.length) H1
theorem pi_rev {X : Cx} {tg e : Expr} {te : TE} {p2 pos2 : Pos} (gR : Gl X "reversed") (mR : X.mg "reversed" = none) (he : PE X e te) (hs : starEach [e] X.env = [(false, eval e X.env)] := by rfl) : PI X tg (.Call (.Name "reversed" p2) [e] [] pos2) (iRev X.K te) := by
  intro pins s σ H R I h
  refine ev_rev he gR mR hs I h (fun x H1 s1 a xs its tk I1 q1 ex hv htup hz ht => ?_) fun x H1 q => by obtain ⟨a, xs, e1, e2, _⟩ := q; exact ⟨a, xs, e1, e2⟩
  obtain ⟨a', ys, e1, e2, q⟩ := q1
  have ea : a = a' := V.ref.inj (ex.symm.trans e1)
  subst ea
  have exy := I1.tuple_inj ht e2
  subst exy
  have hl := hv.length
  have st : IsRevT (s1.heap.push (revT a ((its.toArray.size : Int) - 1))) s1.heap.objs.size a ((its.toArray.size : Int) - 1) := ⟨_, Heap.get?_push_size _ rfl, rfl, by simp [revT]⟩
  refine iter_self (s := { s1 with heap := s1.heap.push (revT a ((its.toArray.size : Int) - 1)), toks := tk }) st ?_
  refine ⟨s1.heap.objs.size, [s1.heap.objs.size], _, _, H1, rfl, I1.kept (t' := tk) fun b o e => Heap.get?_push_of_some _ e, turn_rev a _ xs.length, ⟨Nat.zero_le _, ?_⟩, fun b hb => ?_, q⟩
  · have e3 : (xs.length : Int) - 1 - ((0 : Nat) : Int) = (its.toArray.size : Int) - 1 := by simp; omega
    rw [e3]
    exact st
  · have e : b = s1.heap.objs.size := by simpa using hb
    subst e
    exact I1.fpOk (Nat.le_refl _) (I1.hok.fresh (Nat.le_refl _))
theorem for_rev {K : PySem.W.Frag} {a : Addr} {xs : List V} {g : TG} {tb : TS} {D : Ends} {σ : St} {H : Hp} (Pv : Nat → St → Hp → Prop) (h0 : Pv 0 σ H) (hl : ∀ i σ H, i ≤ xs.length → Pv i σ H → SqT K H a xs)
    (hs : ∀ i x σ H, xs.reverse[i]? = some x → Pv i σ H → g x σ H fun σ2 H2 => tb { D with nx := Pv (i + 1), ct := Pv (i + 1), bk := D.nx } σ2 H2) (hd : ∀ σ H, Pv xs.length σ H → D.nx σ H) :
    ∃ W : Nat → Nat → St → Hp → Prop, (∃ m, W 0 m σ H) ∧ ∀ i m σ H, W i m σ H →
      ((Itv K a xs.length).stop i H ∧ D.nx σ H) ∨ ((Itv K a xs.length).go i H ∧ ∃ N : St → Hp → Prop, (∀ σ' H', N σ' H' → ∃ m', m' < m ∧ W (i + 1) m' σ' H') ∧ ∀ x H', (Itv K a xs.length).yld i H x H' → g x σ H' fun σ2 H2 => tb { D with nx := N, ct := N, bk := D.nx } σ2 H2) := by
  refine ⟨fun i m σ H => m = xs.length - i ∧ i ≤ xs.length ∧ Pv i σ H, ⟨xs.length, by simp, Nat.zero_le _, h0⟩, ?_⟩
  rintro i m σ H ⟨rfl, hi, p⟩
  have q := hl i σ H hi p
  by_cases hlt : i < xs.length
  · refine .inr ⟨⟨hlt, xs, q, rfl⟩, Pv (i + 1), fun σ' H' p' => ⟨xs.length - (i + 1), by omega, rfl, hlt, p'⟩, fun x H' y => ?_⟩
    obtain ⟨e, y⟩ := y
    subst e
    exact hs i x σ _ (y xs q rfl) p
  · have e : i = xs.length := by omega
    subst e
    exact .inl ⟨Nat.le_refl _, hd σ H p⟩
end L2
set_option Elab.async false
set_option linter.all false
set_option maxRecDepth 100000
set_option maxHeartbeats 4000000
namespace L2
open PySem PySem.Spec PyProof.Rows
noncomputable def kN (q : Str × Nat) : List Key := [Sum.inr q.1, Sum.inl ((q.2 : Nat) : Int)]
noncomputable def kS (q : Str × Str) : List Key := [Sum.inr q.1, Sum.inr q.2]
set_option genInjectivity false in
structure Nt where
  ps : List Pt
  km : Str × Str → Option (Str × Nat)
noncomputable def wF (rd md : Addr) : List (Str × V) := [("rows", .ref rd), ("makers", .ref md)]
set_option genInjectivity false in
structure GA where
  w : Addr
  n : Addr
  b : Addr
  l : Addr
  gv : Addr
  wt : Addr
  tr : Addr
noncomputable def gF (A : GA) (tk : Int) (ft : V) : List (Str × V) := [("walk", .ref A.w), ("numbers", .ref A.n), ("taken", .int tk), ("begun", .ref A.b), ("loaded", .ref A.l), ("given", .ref A.gv), ("waiting", .ref A.wt), ("trace", .ref A.tr), ("fault", ft)]
section
variable {A : GA} {tk : Int} {ft : V} {rd md : Addr}
theorem lw_rows : (wF rd md).lookup ("rows" : Str) = some (.ref rd) := by kernel_rfl
theorem lw_makers : (wF rd md).lookup ("makers" : Str) = some (.ref md) := by kernel_rfl
theorem lw_rows_of : (wF rd md).lookup ("rows_of" : Str) = none := by kernel_rfl
theorem lw_key_of : (wF rd md).lookup ("key_of" : Str) = none := by kernel_rfl
theorem lw_loads_of : (wF rd md).lookup ("loads_of" : Str) = none := by kernel_rfl
theorem lw_ahead_of : (wF rd md).lookup ("ahead_of" : Str) = none := by kernel_rfl
theorem lw_go : (wF rd md).lookup ("go" : Str) = none := by kernel_rfl
theorem lg_walk : (gF A tk ft).lookup ("walk" : Str) = some (.ref A.w) := by kernel_rfl
theorem lg_numbers : (gF A tk ft).lookup ("numbers" : Str) = some (.ref A.n) := by kernel_rfl
theorem lg_taken : (gF A tk ft).lookup ("taken" : Str) = some (.int tk) := by kernel_rfl
theorem lg_begun : (gF A tk ft).lookup ("begun" : Str) = some (.ref A.b) := by kernel_rfl
theorem lg_given : (gF A tk ft).lookup ("given" : Str) = some (.ref A.gv) := by kernel_rfl
theorem lg_waiting : (gF A tk ft).lookup ("waiting" : Str) = some (.ref A.wt) := by kernel_rfl
theorem lg_trace : (gF A tk ft).lookup ("trace" : Str) = some (.ref A.tr) := by kernel_rfl
theorem lg_fault : (gF A tk ft).lookup ("fault" : Str) = some ft := by kernel_rfl
theorem lg_load : (gF A tk ft).lookup ("load" : Str) = none := by kernel_rfl
theorem lg_begin : (gF A tk ft).lookup ("begin" : Str) = none := by kernel_rfl
theorem lg_go_on : (gF A tk ft).lookup ("go_on" : Str) = none := by kernel_rfl
theorem lg_do_row : (gF A tk ft).lookup ("do_row" : Str) = none := by kernel_rfl
theorem lg_is_off : (gF A tk ft).lookup ("is_off" : Str) = none := by kernel_rfl
theorem lg_early_word : (gF A tk ft).lookup ("early_word" : Str) = none := by kernel_rfl
theorem lg_do_work : (gF A tk ft).lookup ("do_work" : Str) = none := by kernel_rfl
theorem lg_give : (gF A tk ft).lookup ("give" : Str) = none := by kernel_rfl
theorem lg_next_told : (gF A tk ft).lookup ("next_told" : Str) = none := by kernel_rfl
theorem lg_value_of : (gF A tk ft).lookup ("value_of" : Str) = none := by kernel_rfl
theorem lg_thing_value : (gF A tk ft).lookup ("thing_value" : Str) = none := by kernel_rfl
theorem put_taken (v : Int) : putF "taken" (.int v) (gF A tk ft) = gF A v ft := by kernel_rfl
theorem put_fault (v : V) : putF "fault" v (gF A tk ft) = gF A tk v := by kernel_rfl
theorem gF_len : (gF A tk ft).length < 1000 := by show 9 < 1000; decide
end
set_option genInjectivity false in
structure WalkAt (CP : Addr) (H : Hp) (w : Addr) (N : Nt) : Prop where
  ex : ∃ dx rd md kvr kvm, H w = some (.ins CP dx (wF rd md)) ∧ H rd = some (.dK kvr) ∧ H md = some (.dT kvm) ∧
    (∀ n rs, (n, rs) ∈ N.ps → ∃ u ws, valV kvr (Sum.inr n) = some (.ref u) ∧ H u = some (.tup ws) ∧ RowsAt H ws rs) ∧
    (∀ p x q, N.km (p, x) = some q → ∃ t, valV kvm (kS (p, x)) = some (.ref t) ∧ H t = some (.tup ((kN q).map kV)))
theorem walk_same {CP : Addr} {H H' : Hp} {w : Addr} {N : Nt} (h : WalkAt CP H w N) (s : Same H H') : WalkAt CP H' w N := by
  obtain ⟨dx, rd, md, kvr, kvm, h1, h2, h3, h4, h5⟩ := h.ex
  refine ⟨dx, rd, md, kvr, kvm, s _ _ h1, s _ _ h2, s _ _ h3, fun n rs hm => ?_, fun p x q hq => ?_⟩
  · obtain ⟨u, ws, e1, e2, e3⟩ := h4 n rs hm
    exact ⟨u, ws, e1, s _ _ e2, e3.mono s.tups⟩
  · obtain ⟨t, e1, e2⟩ := h5 p x q hq
    exact ⟨t, e1, s _ _ e2⟩
noncomputable def Fr (g : Addr) (A : GA) (H H' : Hp) : Prop := ∀ a o, H a = some o → a ≠ g → a ≠ A.b → a ≠ A.l → a ≠ A.gv → a ≠ A.wt → a ≠ A.tr → H' a = some o
theorem Fr.refl (g : Addr) (A : GA) (H : Hp) : Fr g A H H := fun _ _ e _ _ _ _ _ _ => e
theorem Fr.trans {g : Addr} {A : GA} {H H1 H2 : Hp} (h : Fr g A H H1) (k : Fr g A H1 H2) : Fr g A H H2 := fun a o e h1 h2 h3 h4 h5 h6 => k a o (h a o e h1 h2 h3 h4 h5 h6) h1 h2 h3 h4 h5 h6
theorem Same.fr {H H' : Hp} (s : Same H H') (g : Addr) (A : GA) : Fr g A H H' := fun a o e _ _ _ _ _ _ => s a o e
noncomputable abbrev Wx := Str × Nat × Rw
noncomputable abbrev Dd := Str × Int × Str × Nat
noncomputable abbrev Ft := Str × Str × Nat × Int
noncomputable def WtAt (H : Hp) (v : V) (x : Wx) : Prop := ∃ t wh r, v = .ref t ∧ H t = some (.tup [.str x.1, .ref wh, .ref r]) ∧ H wh = some (.tup [.str x.1, .int (x.2.1 : Int)]) ∧ RowAt H r x.2.2
noncomputable def DdAt (H : Hp) (v : V) (d : Dd) : Prop := ∃ t, v = .ref t ∧ H t = some (.tup [.str d.1, .int d.2.1, .str d.2.2.1, .int (d.2.2.2 : Int)])
noncomputable def FtAt (H : Hp) (v : V) : Option Ft → Prop
  | none => v = .non
  | some f => ∃ t, v = .ref t ∧ H t = some (.tup [.str f.1, .str f.2.1, .int (f.2.2.1 : Int), .int f.2.2.2])
theorem WtAt.mono {H H' : Hp} (s : Tups H H') {v : V} {x : Wx} (h : WtAt H v x) : WtAt H' v x := by
  obtain ⟨t, wh, r, e, h1, h2, h3⟩ := h
  exact ⟨t, wh, r, e, s _ _ h1, s _ _ h2, h3.mono s⟩
theorem DdAt.mono {H H' : Hp} (s : Tups H H') {v : V} {x : Dd} (h : DdAt H v x) : DdAt H' v x := by
  obtain ⟨t, e, h1⟩ := h
  exact ⟨t, e, s _ _ h1⟩
theorem FtAt.mono {H H' : Hp} (s : Tups H H') {v : V} {x : Option Ft} (h : FtAt H v x) : FtAt H' v x := by
  cases x with
  | none => exact h
  | some f =>
    obtain ⟨t, e, h1⟩ := h
    exact ⟨t, e, s _ _ h1⟩
set_option genInjectivity false in
structure GS where
  tk : Nat
  bg : List Str
  gv : List (List Key × V)
  wt : List Wx
  tr : List Dd
  ft : Option Ft
set_option genInjectivity false in
structure GoAt (CP CG : Addr) (H : Hp) (g : Addr) (A : GA) (N : Nt) (ns : List Int) (S : GS) : Prop where
  ob : ∃ dx v, H g = some (.ins CG dx (gF A (S.tk : Int) v)) ∧ FtAt H v S.ft
  nm : H A.n = some (.tup (ns.map V.int))
  bg : H A.b = some (.dK (setD S.bg))
  ld : H A.l = some (.dK [])
  gv : H A.gv = some (.dT S.gv)
  wt : ∃ vs, H A.wt = some (.lst vs) ∧ Paired (WtAt H) vs S.wt
  tr : ∃ vs, H A.tr = some (.lst vs) ∧ Paired (DdAt H) vs S.tr
  wk : WalkAt CP H A.w N
  n1 : A.wt ≠ A.tr
  n2 : A.b ≠ A.l
  n3 : ∀ dx rd md, H A.w = some (.ins CP dx (wF rd md)) → rd ≠ A.b ∧ rd ≠ A.l ∧ md ≠ A.gv
  gi : ∀ k v, valV S.gv k = some v → ∃ i : Int, v = .int i
  tkl : S.tk ≤ ns.length
theorem GoAt.nw {CP CG : Addr} {H : Hp} {g : Addr} {A : GA} {N : Nt} {ns : List Int} {S : GS} (h : GoAt CP CG H g A N ns S) : A.w ≠ g := by
  obtain ⟨dx, v, h1, _⟩ := h.ob
  obtain ⟨dy, rd, md, _, _, h2, _⟩ := h.wk.ex
  intro z
  rw [z, h1] at h2
  have := Option.some.inj h2
  injection this with _ _ e
  have := congrArg List.length e
  simp [gF, wF] at this
theorem GoAt.tups {CP CG : Addr} {H H' : Hp} {g : Addr} {A : GA} {N : Nt} {ns : List Int} {S : GS} (h : GoAt CP CG H g A N ns S) (f : Fr g A H H') : Tups H H' := fun a xs e => by
  obtain ⟨dx, v, h1, _⟩ := h.ob
  obtain ⟨vs, h2, _⟩ := h.wt
  obtain ⟨us, h3, _⟩ := h.tr
  have h4 := h.bg
  have h5 := h.ld
  have h6 := h.gv
  refine f a _ e ?_ ?_ ?_ ?_ ?_ ?_ <;> (intro z; subst z)
  · rw [h1] at e; cases e
  · rw [h4] at e; cases e
  · rw [h5] at e; cases e
  · rw [h6] at e; cases e
  · rw [h2] at e; cases e
  · rw [h3] at e; cases e
theorem GoAt.walk {CP CG : Addr} {H H' : Hp} {g : Addr} {A : GA} {N : Nt} {ns : List Int} {S : GS} (h : GoAt CP CG H g A N ns S) (f : Fr g A H H') : WalkAt CP H' A.w N ∧ ∀ dx rd md, H' A.w = some (.ins CP dx (wF rd md)) → rd ≠ A.b ∧ rd ≠ A.l ∧ md ≠ A.gv := by
  have T := h.tups f
  have nw := h.nw
  obtain ⟨dx, rd, md, kvr, kvm, h1, h2, h3, h4, h5⟩ := h.wk.ex
  obtain ⟨m1, m2, m3⟩ := h.n3 dx rd md h1
  obtain ⟨dy, v, g1, _⟩ := h.ob
  obtain ⟨vs, g2, _⟩ := h.wt
  obtain ⟨us, g3, _⟩ := h.tr
  have g4 := h.bg
  have g5 := h.ld
  have g6 := h.gv
  have k1 : H' A.w = some (.ins CP dx (wF rd md)) := by
    refine f _ _ h1 nw ?_ ?_ ?_ ?_ ?_ <;> (intro z; rw [z] at h1)
    · rw [g4] at h1; cases h1
    · rw [g5] at h1; cases h1
    · rw [g6] at h1; cases h1
    · rw [g2] at h1; cases h1
    · rw [g3] at h1; cases h1
  have k2 : H' rd = some (.dK kvr) := by
    refine f _ _ h2 ?_ m1 m2 ?_ ?_ ?_ <;> (intro z; rw [z] at h2)
    · rw [g1] at h2; cases h2
    · rw [g6] at h2; cases h2
    · rw [g2] at h2; cases h2
    · rw [g3] at h2; cases h2
  have k3 : H' md = some (.dT kvm) := by
    refine f _ _ h3 ?_ ?_ ?_ m3 ?_ ?_ <;> (intro z; rw [z] at h3)
    · rw [g1] at h3; cases h3
    · rw [g4] at h3; cases h3
    · rw [g5] at h3; cases h3
    · rw [g2] at h3; cases h3
    · rw [g3] at h3; cases h3
  refine ⟨⟨dx, rd, md, kvr, kvm, k1, k2, k3, fun n rs hm => ?_, fun p x q hq => ?_⟩, fun dx' rd' md' e => ?_⟩
  · obtain ⟨u, ws, e1, e2, e3⟩ := h4 n rs hm
    exact ⟨u, ws, e1, T _ _ e2, e3.mono T⟩
  · obtain ⟨t, e1, e2⟩ := h5 p x q hq
    exact ⟨t, e1, T _ _ e2⟩
  · rw [k1] at e
    have := Option.some.inj e
    injection this with _ _ e3
    have e4 : rd = rd' := by injection e3 with e5 _; injection e5 with _ e6; exact V.ref.inj e6
    have e5 : md = md' := by injection e3 with _ e6; injection e6 with e7 _; injection e7 with _ e8; exact V.ref.inj e8
    subst e4
    subst e5
    exact ⟨m1, m2, m3⟩
theorem GoAt.again {CP CG : Addr} {H H' : Hp} {g : Addr} {A : GA} {N : Nt} {ns : List Int} {S S' : GS} (h : GoAt CP CG H g A N ns S) (f : Fr g A H H')
    (ob : ∃ dx v, H' g = some (.ins CG dx (gF A (S'.tk : Int) v)) ∧ FtAt H' v S'.ft) (bg : H' A.b = some (.dK (setD S'.bg))) (ld : H' A.l = some (.dK [])) (gv : H' A.gv = some (.dT S'.gv))
    (wt : ∃ vs, H' A.wt = some (.lst vs) ∧ Paired (WtAt H') vs S'.wt) (tr : ∃ vs, H' A.tr = some (.lst vs) ∧ Paired (DdAt H') vs S'.tr) (gi : ∀ k v, valV S'.gv k = some v → ∃ i : Int, v = .int i) (tkl : S'.tk ≤ ns.length) : GoAt CP CG H' g A N ns S' :=
  ⟨ob, h.tups f _ _ h.nm, bg, ld, gv, wt, tr, (h.walk f).1, h.n1, h.n2, (h.walk f).2, gi, tkl⟩
theorem GoAt.same {CP CG : Addr} {H H' : Hp} {g : Addr} {A : GA} {N : Nt} {ns : List Int} {S : GS} (h : GoAt CP CG H g A N ns S) (s : Same H H') : GoAt CP CG H' g A N ns S := by
  obtain ⟨dx, v, h1, h2⟩ := h.ob
  obtain ⟨vs, h3, h4⟩ := h.wt
  obtain ⟨us, h5, h6⟩ := h.tr
  exact h.again (s.fr g A) ⟨dx, v, s _ _ h1, h2.mono s.tups⟩ (s _ _ h.bg) (s _ _ h.ld) (s _ _ h.gv) ⟨vs, s _ _ h3, Paired.mapP h4 fun _ _ z => z.mono s.tups⟩ ⟨us, s _ _ h5, Paired.mapP h6 fun _ _ z => z.mono s.tups⟩ h.gi h.tkl
theorem GoAt.apart {CP CG : Addr} {H : Hp} {g : Addr} {A : GA} {N : Nt} {ns : List Int} {S : GS} (h : GoAt CP CG H g A N ns S) : g ≠ A.b ∧ g ≠ A.l ∧ g ≠ A.gv ∧ g ≠ A.wt ∧ g ≠ A.tr ∧ A.b ≠ A.gv ∧ A.b ≠ A.wt ∧ A.b ≠ A.tr ∧ A.l ≠ A.gv ∧ A.l ≠ A.wt ∧ A.l ≠ A.tr ∧ A.gv ≠ A.wt ∧ A.gv ≠ A.tr := by
  obtain ⟨dx, v, h1, _⟩ := h.ob
  obtain ⟨vs, h2, _⟩ := h.wt
  obtain ⟨us, h3, _⟩ := h.tr
  have h4 := h.bg
  have h5 := h.ld
  have h6 := h.gv
  refine ⟨ne_of h1 h4 (by intro z; cases z), ne_of h1 h5 (by intro z; cases z), ne_of h1 h6 (by intro z; cases z), ne_of h1 h2 (by intro z; cases z), ne_of h1 h3 (by intro z; cases z), ne_of h4 h6 (by intro z; cases z), ne_of h4 h2 (by intro z; cases z), ne_of h4 h3 (by intro z; cases z), ne_of h5 h6 (by intro z; cases z), ne_of h5 h2 (by intro z; cases z), ne_of h5 h3 (by intro z; cases z), ne_of h6 h2 (by intro z; cases z), ne_of h6 h3 (by intro z; cases z)⟩
section
variable {CP CG : Addr} {H : Hp} {g : Addr} {A : GA} {N : Nt} {ns : List Int} {S : GS}
theorem GoAt.putGiven (h : GoAt CP CG H g A N ns S) (q : Str × Nat) (i : Int) : Fr g A H (upd H A.gv (.dT (putK S.gv (kN q) (.int i)))) ∧ GoAt CP CG (upd H A.gv (.dT (putK S.gv (kN q) (.int i)))) g A N ns { S with gv := putK S.gv (kN q) (.int i) } := by
  have f : Fr g A H (upd H A.gv (.dT (putK S.gv (kN q) (.int i)))) := fun a o e _ _ _ h4 _ _ => by rw [upd_ne h4]; exact e
  have T := h.tups f
  obtain ⟨a1, a2, a3, a4, a5, a6, a7, a8, a9, a10, a11, a12, a13⟩ := h.apart
  obtain ⟨dx, v, h1, h2⟩ := h.ob
  obtain ⟨vs, h3, h4⟩ := h.wt
  obtain ⟨us, h5, h6⟩ := h.tr
  refine ⟨f, h.again f ⟨dx, v, by rw [upd_ne a3]; exact h1, h2.mono T⟩ (by rw [upd_ne a6]; exact h.bg) (by rw [upd_ne a9]; exact h.ld) upd_same ⟨vs, by rw [upd_ne a12.symm]; exact h3, Paired.mapP h4 fun _ _ z => z.mono T⟩ ⟨us, by rw [upd_ne a13.symm]; exact h5, Paired.mapP h6 fun _ _ z => z.mono T⟩ (fun k w e => ?_) h.tkl⟩
  have e' : valV (putK S.gv (kN q) (.int i)) k = some w := e
  rw [valV_put] at e'
  split at e'
  · exact ⟨i, (Option.some.inj e').symm⟩
  · exact h.gi k w e'
theorem GoAt.pushTrace (h : GoAt CP CG H g A N ns S) {us : List V} {v : V} {d : Dd} (hu : H A.tr = some (.lst us)) (hv : DdAt H v d) : Fr g A H (upd H A.tr (.lst (us ++ [v]))) ∧ GoAt CP CG (upd H A.tr (.lst (us ++ [v]))) g A N ns { S with tr := S.tr ++ [d] } := by
  have f : Fr g A H (upd H A.tr (.lst (us ++ [v]))) := fun a o e _ _ _ _ _ h6 => by rw [upd_ne h6]; exact e
  have T := h.tups f
  obtain ⟨a1, a2, a3, a4, a5, a6, a7, a8, a9, a10, a11, a12, a13⟩ := h.apart
  obtain ⟨dx, w, h1, h2⟩ := h.ob
  obtain ⟨vs, h3, h4⟩ := h.wt
  obtain ⟨us', h5, h6⟩ := h.tr
  rw [hu] at h5
  cases h5
  exact ⟨f, h.again f ⟨dx, w, by rw [upd_ne a5]; exact h1, h2.mono T⟩ (by rw [upd_ne a8]; exact h.bg) (by rw [upd_ne a11]; exact h.ld) (by rw [upd_ne a13]; exact h.gv) ⟨vs, by rw [upd_ne h.n1]; exact h3, Paired.mapP h4 fun _ _ z => z.mono T⟩ ⟨_, upd_same, Paired.snoc (Paired.mapP h6 fun _ _ z => z.mono T) (hv.mono T)⟩ h.gi h.tkl⟩
theorem GoAt.setWait (h : GoAt CP CG H g A N ns S) {vs : List V} {ws : List Wx} (hv : Paired (WtAt H) vs ws) : Fr g A H (upd H A.wt (.lst vs)) ∧ GoAt CP CG (upd H A.wt (.lst vs)) g A N ns { S with wt := ws } := by
  have f : Fr g A H (upd H A.wt (.lst vs)) := fun a o e _ _ _ _ h5 _ => by rw [upd_ne h5]; exact e
  have T := h.tups f
  obtain ⟨a1, a2, a3, a4, a5, a6, a7, a8, a9, a10, a11, a12, a13⟩ := h.apart
  obtain ⟨dx, w, h1, h2⟩ := h.ob
  obtain ⟨us, h5, h6⟩ := h.tr
  exact ⟨f, h.again f ⟨dx, w, by rw [upd_ne a4]; exact h1, h2.mono T⟩ (by rw [upd_ne a7]; exact h.bg) (by rw [upd_ne a10]; exact h.ld) (by rw [upd_ne a12]; exact h.gv) ⟨vs, upd_same, Paired.mapP hv fun _ _ z => z.mono T⟩ ⟨us, by rw [upd_ne h.n1.symm]; exact h5, Paired.mapP h6 fun _ _ z => z.mono T⟩ h.gi h.tkl⟩
theorem GoAt.setBegun (h : GoAt CP CG H g A N ns S) (l : List Str) : Fr g A H (upd H A.b (.dK (setD l))) ∧ GoAt CP CG (upd H A.b (.dK (setD l))) g A N ns { S with bg := l } := by
  have f : Fr g A H (upd H A.b (.dK (setD l))) := fun a o e _ h2 _ _ _ _ => by rw [upd_ne h2]; exact e
  have T := h.tups f
  obtain ⟨a1, a2, a3, a4, a5, a6, a7, a8, a9, a10, a11, a12, a13⟩ := h.apart
  obtain ⟨dx, w, h1, h2⟩ := h.ob
  obtain ⟨vs, h3, h4⟩ := h.wt
  obtain ⟨us, h5, h6⟩ := h.tr
  exact ⟨f, h.again f ⟨dx, w, by rw [upd_ne a1]; exact h1, h2.mono T⟩ upd_same (by rw [upd_ne h.n2.symm]; exact h.ld) (by rw [upd_ne a6.symm]; exact h.gv) ⟨vs, by rw [upd_ne a7.symm]; exact h3, Paired.mapP h4 fun _ _ z => z.mono T⟩ ⟨us, by rw [upd_ne a8.symm]; exact h5, Paired.mapP h6 fun _ _ z => z.mono T⟩ h.gi h.tkl⟩
theorem GoAt.setSelf (h : GoAt CP CG H g A N ns S) {dx : Addr} {tk : Nat} {v : V} {ft : Option Ft} (hv : FtAt H v ft) (ht : tk ≤ ns.length) : Fr g A H (upd H g (.ins CG dx (gF A (tk : Int) v))) ∧ GoAt CP CG (upd H g (.ins CG dx (gF A (tk : Int) v))) g A N ns { S with tk := tk, ft := ft } := by
  have f : Fr g A H (upd H g (.ins CG dx (gF A (tk : Int) v))) := fun a o e h1 _ _ _ _ _ => by rw [upd_ne h1]; exact e
  have T := h.tups f
  obtain ⟨a1, a2, a3, a4, a5, a6, a7, a8, a9, a10, a11, a12, a13⟩ := h.apart
  obtain ⟨vs, h3, h4⟩ := h.wt
  obtain ⟨us, h5, h6⟩ := h.tr
  exact ⟨f, h.again f ⟨dx, v, upd_same, hv.mono T⟩ (by rw [upd_ne a1.symm]; exact h.bg) (by rw [upd_ne a2.symm]; exact h.ld) (by rw [upd_ne a3.symm]; exact h.gv) ⟨vs, by rw [upd_ne a4.symm]; exact h3, Paired.mapP h4 fun _ _ z => z.mono T⟩ ⟨us, by rw [upd_ne a5.symm]; exact h5, Paired.mapP h6 fun _ _ z => z.mono T⟩ h.gi ht⟩
end
noncomputable def lk (N : Nt) (gv : List (List Key × V)) (p x : Str) : Option V := (N.km (p, x)).bind fun q => valV gv (kN q)
noncomputable def ivl : Option V → Int
  | some (.int i) => i
  | _ => 0
noncomputable def tv (N : Nt) (gv : List (List Key × V)) (p : Str) : Th → Int
  | .num n => n
  | .nam x => ivl (lk N gv p x)
noncomputable def sumV (N : Nt) (gv : List (List Key × V)) (p : Str) (ts : List (Int × Th)) : Int := ts.foldl (fun a t => a + t.1 * tv N gv p t.2) 0
theorem sumV_snoc (N : Nt) (gv : List (List Key × V)) (p : Str) (ts : List (Int × Th)) (t : Int × Th) : sumV N gv p (ts ++ [t]) = sumV N gv p ts + t.1 * tv N gv p t.2 := by
  unfold sumV
  rw [List.foldl_append]
  rfl
noncomputable def offR (N : Nt) (gv : List (List Key × V)) (p : Str) : Rw → Bool
  | .say _ (some x) => (lk N gv p x).isSome && decide (ivl (lk N gv p x) ≤ 0)
  | .ask _ (some x) => (lk N gv p x).isSome && decide (ivl (lk N gv p x) ≤ 0)
  | _ => false
noncomputable def rdR : Rw → List (Int × Str)
  | .set _ ts => namesOf 3 ts
  | .need ts => namesOf 1 ts
  | .say ts none => namesOf 1 ts
  | .say ts (some x) => (2 * (ts.length : Int) + 1, x) :: namesOf 1 ts
  | .ask _ (some x) => [(3, x)]
  | _ => []
noncomputable def earlyR (N : Nt) (gv : List (List Key × V)) (p : Str) (rw : Rw) : Option Int := ((rdR rw).find? fun d => !(lk N gv p d.2).isSome).map (·.1)
noncomputable def ownR : Rw → Option Str
  | .set o _ => some o
  | .take o => some o
  | _ => none
noncomputable def sgR : Rw → List (Int × Th)
  | .set _ ts => ts
  | .need ts => ts
  | .say ts _ => ts
  | _ => []
noncomputable def idxRows (p : Str) (rs : List Rw) : List Wx := rs.mapIdx fun i r => (p, i, r)
noncomputable def rowsN (N : Nt) (p : Str) : List Rw := ((N.ps.find? fun q => decide (q.1 = p)).map (·.2)).getD []
noncomputable def beginS (N : Nt) (S : GS) (p : Str) : GS := { S with bg := addN S.bg p, wt := S.wt ++ (idxRows p (rowsN N p)).reverse }
noncomputable def workS (N : Nt) (ns : List Int) (S : GS) (p : Str) (j : Nat) : Rw → GS
  | .set o ts => match N.km (p, o) with
    | some q => { S with gv := putK S.gv (kN q) (.int (sumV N S.gv p ts)) }
    | none => S
  | .take o => match N.km (p, o) with
    | some q => { S with tk := if S.tk = ns.length then S.tk else S.tk + 1, gv := putK S.gv (kN q) (.int (ns.getD S.tk 0)), tr := S.tr ++ [(("take" : Str), ns.getD S.tk 0, p, j)] }
    | none => S
  | .say ts _ => { S with tr := S.tr ++ [(("say" : Str), sumV N S.gv p ts, p, j)] }
  | .need ts => if sumV N S.gv p ts ≤ 0 then { S with ft := some ("need", p, j, 0) } else S
  | _ => S
noncomputable def enterS (N : Nt) (S : GS) (q : Str) : GS := if q ∈ S.bg then S else beginS N S q
noncomputable def tailS (N : Nt) (ns : List Int) (S : GS) (p : Str) (j : Nat) : Rw → GS
  | .bring q _ => enterS N S q
  | .ask q _ => enterS N S q
  | .set o ts => workS N ns S p j (.set o ts)
  | .take o => workS N ns S p j (.take o)
  | .say ts w => workS N ns S p j (.say ts w)
  | .need ts => workS N ns S p j (.need ts)
  | _ => S
noncomputable def rowS (N : Nt) (ns : List Int) (S : GS) (p : Str) (j : Nat) (rw : Rw) : GS :=
  if offR N S.gv p rw = true then S else match earlyR N S.gv p rw with
    | some w => { S with ft := some ("early", p, j, w) }
    | none => tailS N ns S p j rw
theorem rowS_none {N : Nt} {ns : List Int} {S : GS} {p : Str} {j : Nat} {rw : Rw} (h : offR N S.gv p rw = false) (k : earlyR N S.gv p rw = none) : rowS N ns S p j rw = tailS N ns S p j rw := by
  unfold rowS
  rw [h, k]
  rfl
theorem rowS_early {N : Nt} {ns : List Int} {S : GS} {p : Str} {j : Nat} {rw : Rw} {w : Int} (h : offR N S.gv p rw = false) (k : earlyR N S.gv p rw = some w) : rowS N ns S p j rw = { S with ft := some ("early", p, j, w) } := by
  unfold rowS
  rw [h, k]
  rfl
theorem rowS_off {N : Nt} {ns : List Int} {S : GS} {p : Str} {j : Nat} {rw : Rw} (h : offR N S.gv p rw = true) : rowS N ns S p j rw = S := by
  unfold rowS
  rw [if_pos h]
end L2
set_option Elab.async false
set_option linter.all false
set_option maxRecDepth 100000
set_option maxHeartbeats 4000000
namespace L2
open PySem PySem.Spec PyProof.Rows
noncomputable def TupIs (H : Hp) (v : V) (d : List V) : Prop := ∃ t, v = .ref t ∧ H t = some (.tup d)
theorem op_eqL_tups {X : Cx} (hu : X.A.units + 1 < cLine) : OpR X (compareOp .Eq) (fun x y H Q => ∃ a b xs ys ds, x = .ref a ∧ y = .ref b ∧ SqL X.K H a xs ∧ SqL X.K H b ys ∧ Paired (TupIs H) xs ds ∧ Paired (TupIs H) ys ds ∧ (∀ d ∈ ds, d.all flatV = true) ∧ Q (.bl true) H) := by
  intro pins s σ H x y v u Q I rx ry h
  obtain ⟨a, b, xs, ys, ds, rfl, rfl, ha, hb, h1, h2, hf, q⟩ := h
  cases rx
  cases ry
  obtain ⟨its, r1, p1, _⟩ := I.list ha
  obtain ⟨its2, r2, p2, _⟩ := I.list hb
  have hl1 := r1.length
  have hl2 := r2.length
  have hx := Paired.length h1
  have hy := Paired.length h2
  refine SeqAt.eq_listAt (e := fun _ => true) p1.isList p2.isList (by simp; omega) (by omega) (fun j j1 j2 => ?_) ?_
  · have k1 : j < xs.length := by simp at j1; omega
    have k2 : j < ys.length := by simp at j2; omega
    obtain ⟨d, hd, t, e1, ht⟩ := Paired.get? h1 (List.getElem?_eq_getElem k1)
    obtain ⟨d', hd', t', e1', ht'⟩ := Paired.get? h2 (List.getElem?_eq_getElem k2)
    rw [hd] at hd'
    cases hd'
    obtain ⟨w1, g1, rw1⟩ := r1.get (List.getElem?_eq_getElem k1)
    obtain ⟨w2, g2, rw2⟩ := r2.get (List.getElem?_eq_getElem k2)
    rw [e1] at rw1
    rw [e1'] at rw2
    cases rw1
    cases rw2
    have f1 : its.toArray[j] = Value.ref t := by
      have : its[j]? = some its.toArray[j] := by simp at j1; simp [j1]
      rw [g1] at this; exact (Option.some.inj this).symm
    have f2 : its2.toArray[j] = Value.ref t' := by
      have : its2[j]? = some its2.toArray[j] := by simp at j2; simp [j2]
      rw [g2] at this; exact (Option.some.inj this).symm
    rw [f1, f2]
    by_cases ett : t = t'
    · subst ett
      exact SeqAt.EqAt.same _
    · obtain ⟨js, q1, pt1, _⟩ := I.tuple (SqT.of ht)
      obtain ⟨js2, q2, pt2, _⟩ := I.tuple (SqT.of ht')
      have hdf := hf d (List.mem_of_getElem? hd)
      have m1 := q1.length
      have m2 := q2.length
      have R := SeqAt.RcAt.tuples (A := X.A.in1) (e := fun _ => true) (show s.heap.IsTuple t js.toArray from pt1) (show s.heap.IsTuple t' js2.toArray from pt2) (by show X.A.units + 1 < cLine; exact hu) (same_items q1 q2 hdf)
      have e : ((List.range (min js.toArray.size js2.toArray.size)).all (fun _ => true) && js.toArray.size == js2.toArray.size) = true := by
        have : js.toArray.size = js2.toArray.size := by simp; omega
        simp [this]
      rw [e] at R
      exact SeqAt.EqAt.of_refs ett R
  · have e : ((List.range its.toArray.size).all (fun _ => true)) = true := by simp
    rw [e]
    exact ⟨.bl true, H, I, rfl, q⟩
end L2
set_option linter.all false
namespace L2
open PySem
@[elab_as_elim] theorem len1 {α : Type} {p : List α → Prop} (us : List α) (hl : us.length = 1) (h : ∀ a, p [a]) : p us := match us, hl with | [a], _ => h a
@[elab_as_elim] theorem len2 {α : Type} {p : List α → Prop} (us : List α) (hl : us.length = 2) (h : ∀ a b, p [a, b]) : p us := match us, hl with | [a, b], _ => h a b
@[elab_as_elim] theorem len3 {α : Type} {p : List α → Prop} (us : List α) (hl : us.length = 3) (h : ∀ a b c, p [a, b, c]) : p us := match us, hl with | [a, b, c], _ => h a b c
@[elab_as_elim] theorem len4 {α : Type} {p : List α → Prop} (us : List α) (hl : us.length = 4) (h : ∀ a b c d, p [a, b, c, d]) : p us := match us, hl with | [a, b, c, d], _ => h a b c d
end L2
set_option Elab.async false
set_option linter.all false
set_option maxRecDepth 100000
set_option maxHeartbeats 8000000
namespace K20
open PySem L2 PyProof.Rows
noncomputable def top (i : Nat) : Stmt := PySem.Challenge.pw_bundlehouse_k20_taken_and_said.main.body.getD i (.Pass ⟨0, 0, 0, 0⟩)
noncomputable abbrev s_read_names : Stmt := top 5
theorem sc_read_names : FnScope ["row", "kind"] ["row"] (defScope s_read_names) := ⟨rfl, rfl, rfl, by decide +kernel, rfl, by decide +kernel, by decide +kernel⟩
noncomputable abbrev s_sum_names : Stmt := top 6
theorem sc_sum_names : FnScope ["terms", "first", "names", "place", "term"] ["terms", "first"] (defScope s_sum_names) := ⟨rfl, rfl, rfl, by decide +kernel, rfl, by decide +kernel, by decide +kernel⟩
noncomputable abbrev s_when_names : Stmt := top 7
theorem sc_when_names : FnScope ["row"] ["row"] (defScope s_when_names) := ⟨rfl, rfl, rfl, by decide +kernel, rfl, by decide +kernel, by decide +kernel⟩
noncomputable abbrev s_placed_rows : Stmt := top 9
theorem sc_placed_rows : FnScope ["parts", "found", "part", "rows", "number", "row"] ["parts"] (defScope s_placed_rows) := ⟨rfl, rfl, rfl, by decide +kernel, rfl, by decide +kernel, by decide +kernel⟩
noncomputable abbrev s_given_owns : Stmt := top 10
theorem sc_given_owns : FnScope ["parts", "owns", "part", "number", "row"] ["parts"] (defScope s_given_owns) := ⟨rfl, rfl, rfl, by decide +kernel, rfl, by decide +kernel, by decide +kernel⟩
noncomputable abbrev s_links : Stmt := top 11
theorem sc_links : FnScope ["parts", "owns", "onward", "part", "number", "row", "given", "own"] ["parts"] (defScope s_links) := ⟨rfl, rfl, rfl, by decide +kernel, rfl, by decide +kernel, by decide +kernel⟩
noncomputable abbrev s_makers : Stmt := top 12
theorem sc_makers : FnScope ["parts", "found", "onward", "start", "way", "here", "name"] ["parts"] (defScope s_makers) := ⟨rfl, rfl, rfl, by decide +kernel, rfl, by decide +kernel, by decide +kernel⟩
noncomputable abbrev s_made : Stmt := top 13
theorem sc_made : FnScope ["parts", "found", "part", "number", "row"] ["parts"] (defScope s_made) := ⟨rfl, rfl, rfl, by decide +kernel, rfl, by decide +kernel, by decide +kernel⟩
noncomputable abbrev s_run : Stmt := top 15
theorem sc_run : FnScope ["parts", "root", "numbers"] ["parts", "root", "numbers"] (defScope s_run) := ⟨rfl, rfl, rfl, by decide +kernel, rfl, by decide +kernel, by decide +kernel⟩
noncomputable abbrev s_Walk_loads_of : Stmt := inClass (top 16) 2
theorem sc_Walk_loads_of : FnScope ["self", "part"] ["self", "part"] (defScope s_Walk_loads_of) := ⟨rfl, rfl, rfl, by decide +kernel, rfl, by decide +kernel, by decide +kernel⟩
noncomputable abbrev s_Walk_ahead_of : Stmt := inClass (top 16) 3
theorem sc_Walk_ahead_of : FnScope ["self", "root"] ["self", "root"] (defScope s_Walk_ahead_of) := ⟨rfl, rfl, rfl, by decide +kernel, rfl, by decide +kernel, by decide +kernel⟩
noncomputable abbrev s_Walk_go : Stmt := inClass (top 16) 4
theorem sc_Walk_go : FnScope ["self", "root", "numbers", "going"] ["self", "root", "numbers"] (defScope s_Walk_go) := ⟨rfl, rfl, rfl, by decide +kernel, rfl, by decide +kernel, by decide +kernel⟩
noncomputable abbrev s_PartsWalk___init__ : Stmt := inClass (top 17) 0
theorem sc_PartsWalk___init__ : FnScope ["self", "parts"] ["self", "parts"] (defScope s_PartsWalk___init__) := ⟨rfl, rfl, rfl, by decide +kernel, rfl, by decide +kernel, by decide +kernel⟩
noncomputable abbrev s_PartsWalk_rows_of : Stmt := inClass (top 17) 1
theorem sc_PartsWalk_rows_of : FnScope ["self", "part"] ["self", "part"] (defScope s_PartsWalk_rows_of) := ⟨rfl, rfl, rfl, by decide +kernel, rfl, by decide +kernel, by decide +kernel⟩
noncomputable abbrev s_PartsWalk_key_of : Stmt := inClass (top 17) 2
theorem sc_PartsWalk_key_of : FnScope ["self", "part", "name"] ["self", "part", "name"] (defScope s_PartsWalk_key_of) := ⟨rfl, rfl, rfl, by decide +kernel, rfl, by decide +kernel, by decide +kernel⟩
noncomputable abbrev s_Going___init__ : Stmt := inClass (top 18) 0
theorem sc_Going___init__ : FnScope ["self", "walk", "numbers"] ["self", "walk", "numbers"] (defScope s_Going___init__) := ⟨rfl, rfl, rfl, by decide +kernel, rfl, by decide +kernel, by decide +kernel⟩
noncomputable abbrev s_Going_load : Stmt := inClass (top 18) 1
theorem sc_Going_load : FnScope ["self", "packs", "pack"] ["self", "packs"] (defScope s_Going_load) := ⟨rfl, rfl, rfl, by decide +kernel, rfl, by decide +kernel, by decide +kernel⟩
noncomputable abbrev s_Going_begin : Stmt := inClass (top 18) 2
theorem sc_Going_begin : FnScope ["self", "part", "place", "number", "row"] ["self", "part"] (defScope s_Going_begin) := ⟨rfl, rfl, rfl, by decide +kernel, rfl, by decide +kernel, by decide +kernel⟩
noncomputable abbrev s_Going_go_on : Stmt := inClass (top 18) 3
theorem sc_Going_go_on : FnScope ["self", "step"] ["self"] (defScope s_Going_go_on) := ⟨rfl, rfl, rfl, by decide +kernel, rfl, by decide +kernel, by decide +kernel⟩
noncomputable abbrev s_Going_do_row : Stmt := inClass (top 18) 4
theorem sc_Going_do_row : FnScope ["self", "part", "where", "row", "word"] ["self", "part", "where", "row"] (defScope s_Going_do_row) := ⟨rfl, rfl, rfl, by decide +kernel, rfl, by decide +kernel, by decide +kernel⟩
noncomputable abbrev s_Going_is_off : Stmt := inClass (top 18) 5
theorem sc_Going_is_off : FnScope ["self", "part", "row", "key"] ["self", "part", "row"] (defScope s_Going_is_off) := ⟨rfl, rfl, rfl, by decide +kernel, rfl, by decide +kernel, by decide +kernel⟩
noncomputable abbrev s_Going_early_word : Stmt := inClass (top 18) 6
theorem sc_Going_early_word : FnScope ["self", "part", "row", "word", "name"] ["self", "part", "row"] (defScope s_Going_early_word) := ⟨rfl, rfl, rfl, by decide +kernel, rfl, by decide +kernel, by decide +kernel⟩
noncomputable abbrev s_Going_do_work : Stmt := inClass (top 18) 8
theorem sc_Going_do_work : FnScope ["self", "part", "where", "row", "kind", "value"] ["self", "part", "where", "row"] (defScope s_Going_do_work) := ⟨rfl, rfl, rfl, by decide +kernel, rfl, by decide +kernel, by decide +kernel⟩
noncomputable abbrev s_Going_give : Stmt := inClass (top 18) 9
theorem sc_Going_give : FnScope ["self", "part", "name", "value"] ["self", "part", "name", "value"] (defScope s_Going_give) := ⟨rfl, rfl, rfl, by decide +kernel, rfl, by decide +kernel, by decide +kernel⟩
noncomputable abbrev s_Going_next_told : Stmt := inClass (top 18) 10
theorem sc_Going_next_told : FnScope ["self"] ["self"] (defScope s_Going_next_told) := ⟨rfl, rfl, rfl, by decide +kernel, rfl, by decide +kernel, by decide +kernel⟩
noncomputable abbrev s_Going_value_of : Stmt := inClass (top 18) 11
theorem sc_Going_value_of : FnScope ["self", "part", "terms", "total", "sign", "thing"] ["self", "part", "terms"] (defScope s_Going_value_of) := ⟨rfl, rfl, rfl, by decide +kernel, rfl, by decide +kernel, by decide +kernel⟩
noncomputable abbrev s_Going_thing_value : Stmt := inClass (top 18) 12
theorem sc_Going_thing_value : FnScope ["self", "part", "thing"] ["self", "part", "thing"] (defScope s_Going_thing_value) := ⟨rfl, rfl, rfl, by decide +kernel, rfl, by decide +kernel, by decide +kernel⟩
noncomputable abbrev s_law_cell_at : Stmt := top 20
theorem sc_law_cell_at : FnScope ["_law_script", "_law_k"] ["_law_script", "_law_k"] (defScope s_law_cell_at) := ⟨rfl, rfl, rfl, by decide +kernel, rfl, by decide +kernel, by decide +kernel⟩
noncomputable abbrev s_law_whole : Stmt := top 21
theorem sc_law_whole : FnScope ["_law_found"] ["_law_found"] (defScope s_law_whole) := ⟨rfl, rfl, rfl, by decide +kernel, rfl, by decide +kernel, by decide +kernel⟩
noncomputable abbrev s_law_word : Stmt := top 22
theorem sc_law_word : FnScope ["_law_cell", "_law_letters", "_law_word_here", "_law_k"] ["_law_cell"] (defScope s_law_word) := ⟨rfl, rfl, rfl, by decide +kernel, rfl, by decide +kernel, by decide +kernel⟩
noncomputable abbrev s_law_number : Stmt := top 23
theorem sc_law_number : FnScope ["_law_cell"] ["_law_cell"] (defScope s_law_number) := ⟨rfl, rfl, rfl, by decide +kernel, rfl, by decide +kernel, by decide +kernel⟩
noncomputable abbrev s_law_alike : Stmt := top 24
theorem sc_law_alike : FnScope ["_law_found", "_law_due", "_law_deed"] ["_law_found", "_law_due"] (defScope s_law_alike) := ⟨rfl, rfl, rfl, by decide +kernel, rfl, by decide +kernel, by decide +kernel⟩
noncomputable abbrev s_law : Stmt := top 25
theorem sc_law : FnScope ["_law_script", "_law_part", "_law_many", "_law_told", "_law_rows", "_law_due", "_law_own", "_law_value", "_law_left", "_law_cell", "_law_parts"] ["_law_script"] (defScope s_law) := ⟨rfl, rfl, rfl, by decide +kernel, rfl, by decide +kernel, by decide +kernel⟩
set_option genInjectivity false in
structure Txt (K : PySem.W.Frag) (mg : Str → Option Value) : Prop where
  n_len : mg "len" = none
  n_range : mg "range" = none
  n_str : mg "str" = none
  n_tuple : mg "tuple" = none
  n_list : mg "list" = none
  n_dict : mg "dict" = none
  n_enumerate : mg "enumerate" = none
  n_isinstance : mg "isinstance" = none
  n_reversed : mg "reversed" = none
  n_int : mg "int" = none
  n_bool : mg "bool" = none
  d_read_names : HasDef K mg "read_names" s_read_names
  d_sum_names : HasDef K mg "sum_names" s_sum_names
  d_when_names : HasDef K mg "when_names" s_when_names
  d_placed_rows : HasDef K mg "placed_rows" s_placed_rows
  d_given_owns : HasDef K mg "given_owns" s_given_owns
  d_links : HasDef K mg "links" s_links
  d_makers : HasDef K mg "makers" s_makers
  d_made : HasDef K mg "made" s_made
  d_run : HasDef K mg "run" s_run
  d_law_cell_at : HasDef K mg "_law_cell_at" s_law_cell_at
  d_law_whole : HasDef K mg "_law_whole" s_law_whole
  d_law_word : HasDef K mg "_law_word" s_law_word
  d_law_number : HasDef K mg "_law_number" s_law_number
  d_law_alike : HasDef K mg "_law_alike" s_law_alike
set_option genInjectivity false in
structure Tc (K : PySem.W.Frag) (mg : Str → Option Value) (CP CG : Addr) : Prop extends Txt K mg where
  c_PartsWalk : Cls K CP
  c_Going : Cls K CG
  g_PartsWalk : mg "PartsWalk" = some (.ref CP)
  g_Going : mg "Going" = some (.ref CG)
  nG_walk : NoAttr K CG "walk"
  nG_numbers : NoAttr K CG "numbers"
  nG_taken : NoAttr K CG "taken"
  nG_begun : NoAttr K CG "begun"
  nG_loaded : NoAttr K CG "loaded"
  nG_given : NoAttr K CG "given"
  nG_waiting : NoAttr K CG "waiting"
  nG_trace : NoAttr K CG "trace"
  nG_fault : NoAttr K CG "fault"
  nP_rows : NoAttr K CP "rows"
  nP_makers : NoAttr K CP "makers"
  m_load : HasM K CG "load" "Going.load" s_Going_load
  m_begin : HasM K CG "begin" "Going.begin" s_Going_begin
  m_go_on : HasM K CG "go_on" "Going.go_on" s_Going_go_on
  m_do_row : HasM K CG "do_row" "Going.do_row" s_Going_do_row
  m_is_off : HasM K CG "is_off" "Going.is_off" s_Going_is_off
  m_early_word : HasM K CG "early_word" "Going.early_word" s_Going_early_word
  m_do_work : HasM K CG "do_work" "Going.do_work" s_Going_do_work
  m_give : HasM K CG "give" "Going.give" s_Going_give
  m_next_told : HasM K CG "next_told" "Going.next_told" s_Going_next_told
  m_value_of : HasM K CG "value_of" "Going.value_of" s_Going_value_of
  m_thing_value : HasM K CG "thing_value" "Going.thing_value" s_Going_thing_value
  m_rows_of : HasM K CP "rows_of" "PartsWalk.rows_of" s_PartsWalk_rows_of
  m_key_of : HasM K CP "key_of" "PartsWalk.key_of" s_PartsWalk_key_of
  m_loads_of : HasM K CP "loads_of" "Walk.loads_of" s_Walk_loads_of
  m_ahead_of : HasM K CP "ahead_of" "Walk.ahead_of" s_Walk_ahead_of
  m_go : HasM K CP "go" "Walk.go" s_Walk_go
  i_PartsWalk : HasI K CP "PartsWalk.__init__" s_PartsWalk___init__
  i_Going : HasI K CG "Going.__init__" s_Going___init__
theorem parts_pairs {K : PySem.W.Frag} {H : Hp} : ∀ {vs : List V} {ps : List Pt}, Paired (PartAt H) vs ps → ∃ qs : List (Str × V), Paired (fun v (p : Str × V) => ∃ t, v = .ref t ∧ SqT K H t [.str p.1, p.2]) vs qs ∧ qs.map (·.1) = ps.map (·.1) ∧ ∀ n rs, (n, rs) ∈ ps → ∃ u ws, (n, V.ref u) ∈ qs ∧ H u = some (.tup ws) ∧ RowsAt H ws rs := by
  intro vs ps hp
  induction hp with
  | nil => exact ⟨[], .nil, rfl, fun n rs h => by simp at h⟩
  | @cons _ p _ _ hp0 hr ih =>
    obtain ⟨t, u, ws, e, h1, h2, h3⟩ := hp0
    obtain ⟨qs, g1, g2, g3⟩ := ih
    refine ⟨(p.1, .ref u) :: qs, .cons ⟨t, e, SqT.of h1⟩ g1, by rw [List.map_cons, List.map_cons, g2], fun n rs h => ?_⟩
    rcases List.mem_cons.mp h with z | z
    · rw [← z] at h1 h3 ⊢
      exact ⟨u, ws, List.mem_cons_self, h2, h3⟩
    · obtain ⟨u', ws', k1, k2⟩ := g3 n rs z
      exact ⟨u', ws', List.mem_cons_of_mem _ k1, k2⟩
section
variable {P : Program} {w : World} {K : PySem.W.Frag} {mg : Str → Option Value} {base : Heap} {CP CG : Addr}
theorem inV_strs (x : Str) : ∀ l : List Str, inV (.str x) (l.map V.str) = decide (x ∈ l)
  | [] => by simp [inV]
  | a :: r => by
    have ih := inV_strs x r
    unfold inV at ih ⊢
    rw [List.map_cons, List.any_cons, ih]
    by_cases e : a = x
    · subst e; simp [eqV]
    · have h2 : ¬ x = a := fun z => e z.symm
      simp [eqV, e, h2]
noncomputable def spLaw (K : PySem.W.Frag) : Sp := fun vs H Q _ => ∃ (a : Addr) (ns : List Int), vs = [.ref a] ∧ SqL K H a (ns.map V.int) ∧ ns.length ≤ 63 ∧ ∀ H', Q (.bl true) H'
theorem nodup_lenG {α : Type} [DecidableEq α] : ∀ (l N : List α), l.Nodup → (∀ x ∈ l, x ∈ N) → l.length ≤ N.length
  | [], N, _, _ => Nat.zero_le _
  | a :: r, N, hn, hs => by
    rw [List.nodup_cons] at hn
    have ha : a ∈ N := hs a List.mem_cons_self
    have h1 := nodup_lenG r (N.erase a) hn.2 fun x hx => (List.mem_erase_of_ne (fun z => hn.1 (by rw [← z]; exact hx))).mpr (hs x (List.mem_cons_of_mem _ hx))
    rw [List.length_erase_of_mem ha] at h1
    have : 0 < N.length := List.length_pos_of_mem ha
    simp only [List.length_cons]; omega
theorem setD_val (l : List Str) (x : Str) : valV (setD l) (Sum.inr x) = if x ∈ l then some (.bl true) else none := by
  induction l with
  | nil => rfl
  | cons a r ih =>
    have e : setD (a :: r) = (Sum.inr a, .bl true) :: setD r := rfl
    rw [e]
    by_cases h : a = x
    · subst h
      rw [valV_pos rfl, if_pos List.mem_cons_self]
    · rw [valV_neg (fun z => h (Sum.inr.inj z)), ih]
      by_cases hm : x ∈ r
      · rw [if_pos hm, if_pos (List.mem_cons_of_mem _ hm)]
      · rw [if_neg hm, if_neg (fun z => by rcases List.mem_cons.mp z with y | y; exact h y.symm; exact hm y)]
theorem setD_some (l : List Str) (x : Str) : (valV (setD l) (Sum.inr x)).isSome = decide (x ∈ l) := by
  rw [setD_val]
  by_cases h : x ∈ l
  · rw [if_pos h, decide_eq_true h]; rfl
  · rw [if_neg h, decide_eq_false h]; rfl
theorem addN_mem (l : List Str) (x y : Str) : y ∈ addN l x ↔ y ∈ l ∨ y = x := by
  unfold addN
  by_cases h : x ∈ l
  · rw [if_pos h]
    exact ⟨.inl, fun z => by rcases z with z | z; exact z; rw [z]; exact h⟩
  · rw [if_neg h, List.mem_append, List.mem_singleton]
set_option genInjectivity false in
structure PsFit (ps : List Pt) : Prop where
  nd : (ps.map (·.1)).Nodup
  hi : ps.length ≤ 24
  rows : ∀ pt ∈ ps, pt.2.length ≤ 40
noncomputable abbrev Pl := Str × Nat × Rw
noncomputable def rowsPl (n : Str) (rs : List Rw) : List Pl := rs.zipIdx.map fun x => (n, x.2, x.1)
theorem rowsPl_snoc (n : Str) (rs : List Rw) (rw : Rw) : rowsPl n (rs ++ [rw]) = rowsPl n rs ++ [(n, rs.length, rw)] := by
  unfold rowsPl
  rw [List.zipIdx_append, List.map_append]
  simp
theorem rowsPl_len (n : Str) (rs : List Rw) : (rowsPl n rs).length = rs.length := by unfold rowsPl; simp
noncomputable def plsOf (ps : List Pt) : List Pl := ps.flatMap fun pt => rowsPl pt.1 pt.2
theorem plsOf_snoc (ps : List Pt) (pt : Pt) : plsOf (ps ++ [pt]) = plsOf ps ++ rowsPl pt.1 pt.2 := by
  unfold plsOf
  rw [List.flatMap_append]
  simp
theorem plsOf_len : ∀ {ps : List Pt}, (∀ pt ∈ ps, pt.2.length ≤ 40) → (plsOf ps).length ≤ 40 * ps.length
  | [], _ => by simp [plsOf]
  | pt :: r, h => by
    have h1 := plsOf_len (ps := r) fun p hp => h p (List.mem_cons_of_mem _ hp)
    have h2 := h pt List.mem_cons_self
    have e : plsOf (pt :: r) = rowsPl pt.1 pt.2 ++ plsOf r := rfl
    rw [e, List.length_append, rowsPl_len, List.length_cons]
    omega
noncomputable def PlAt (H : Hp) (v : V) (x : Pl) : Prop := ∃ t r, v = .ref t ∧ H t = some (.tup [.str x.1, .int (x.2.1 : Int), .ref r]) ∧ RowAt H r x.2.2
theorem PlAt.mono {H H' : Hp} (s : Tups H H') {v : V} {x : Pl} (h : PlAt H v x) : PlAt H' v x := by
  obtain ⟨t, r, e, h1, h2⟩ := h
  exact ⟨t, r, e, s _ _ h1, h2.mono s⟩
noncomputable def spPlaced : Sp := fun vs H Q _ => ∃ (a : Addr) (ps : List Pt), vs = [.ref a] ∧ PartsF H a ps ∧ PsFit ps ∧ ∀ (p : Addr) (vs : List V) (H' : Hp), Same H H' → H' p = some (.tup vs) → Paired (PlAt H') vs (plsOf ps) → Q (.ref p) H'
theorem ok_placed (T : Txt K mg) : L2.Cl P w K mg base 1 "placed_rows" ["parts"] spPlaced := by
  refine Cl.of T.d_placed_rows sc_placed_rows (fun vs H Q E h => ?_) (fun _ _ _ _ _ _ us hl => len1 us hl (fun _ => rfl)) (fun fa cdv A outer s H vs Q E hr h => ?_)
  · obtain ⟨a, ps, rfl, _⟩ := h
    rfl
  · obtain ⟨a, ps, rfl, hpf, hfit, q⟩ := h
    obtain ⟨o, vs, ha, ho, hps⟩ := id hpf
    have sqa : ∀ {H2 : Hp}, Same H H2 → SqT K H2 a vs := fun s2 => .inl (.inr ⟨o, s2 _ _ ha⟩)
    have hvl : vs.length = ps.length := Paired.length hps
    have hhi := hfit.hi
    refine ⟨_, (pss_cons (ps_set (i := 1) sc_placed_rows.nd rfl (Or.inl rfl) (pe_lst pa_nil))
      (pss_cons (ps_for PassesOwn.never rfl (pi_tup (pv 0)) (pg_tup rfl (pgs_cons (pg_name (i := 2) sc_placed_rows.nd rfl (Or.inl rfl)) (pgs_cons (pg_name (i := 3) sc_placed_rows.nd rfl (Or.inl rfl)) pgs_nil)))
        (pss_one (ps_for PassesOwn.never rfl (pi_enumT (by rfl) T.n_enumerate (pa_cons (pv 3) pa_nil)) (pg_tup rfl (pgs_cons (pg_name (i := 4) sc_placed_rows.nd rfl (Or.inl rfl)) (pgs_cons (pg_name (i := 5) sc_placed_rows.nd rfl (Or.inl rfl)) pgs_nil)))
          (pss_one (ps_expr (pe_bm PySem.F.plainAttrs_list PySem.F.slot_list_append PySem.F.type_list_append mt_append (pv 1) (pa_cons (pe_tup (pa_cons (pv 2) (pa_cons (pv 4) (pa_cons (pv 5) pa_nil)))) pa_nil)))))))
      (pss_one (ps_ret (pe_callTy call_tuple_of (by rfl) T.n_tuple boot_tuple (pa_cons (pv 1) pa_nil)))))), ?_⟩
    refine ⟨(by show 0 ≤ sizeLine; decide), fun l gl => ?_⟩
    have s1 : Same H (upd H l (.lst [])) := (Same.refl H).new gl
    refine ⟨_, rfl, a, rfl, ⟨_, sqa s1⟩, for_tup (K := K) (a := a) (xs := vs) (fun i σ H2 => ∃ (us : List V) (v2 v3 v4 v5 : Option V), σ = [some (.ref a), some (.ref l), v2, v3, v4, v5] ∧ Same H H2 ∧ H2 l = some (.lst us) ∧ Paired (PlAt H2) us (plsOf (ps.take i)))
      ⟨[], none, none, none, none, rfl, s1, upd_same, by rw [List.take_zero]; exact .nil⟩ (fun i σ H2 _ hpat => by obtain ⟨_, _, _, _, _, _, s2, _⟩ := hpat; exact sqa s2) ?_ ?_⟩
    · rintro i y σ H2 hy ⟨us, v2, v3, v4, v5, rfl, s2, hl2, hus⟩
      obtain ⟨pt, hpt, t, u, ws, ey, ht, hu', hrs⟩ := Paired.get? hps hy
      subst ey
      have hi : i < vs.length := (List.getElem?_eq_some_iff.mp hy).1
      have hr40 := hfit.rows _ (List.mem_of_getElem? hpt)
      have hpl : (plsOf (ps.take i)).length ≤ 40 * 23 := by
        have h1 := plsOf_len (ps := ps.take i) fun p hp => hfit.rows p (List.mem_of_mem_take hp)
        rw [List.length_take] at h1
        omega
      have hwl : ws.length = pt.2.length := Paired.length hrs
      refine ⟨t, _, rfl, SqT.of (s2 _ _ ht), rfl, _, _, rfl, _, _, rfl, rfl, ?_⟩
      refine ⟨_, rfl, u, rfl, ⟨_, SqT.of (s2 _ _ hu')⟩, for_enum (K := K) (a := u) (xs := ws) (fun j σ H3 => ∃ (us : List V) (v4 v5 : Option V), σ = [some (.ref a), some (.ref l), some (.str pt.1), some (.ref u), v4, v5] ∧ Same H H3 ∧ H3 l = some (.lst us) ∧ Paired (PlAt H3) us (plsOf (ps.take i) ++ rowsPl pt.1 (pt.2.take j)))
        ⟨us, _, _, rfl, s2, hl2, by rw [List.take_zero]; show Paired _ us (plsOf (ps.take i) ++ []); rw [List.append_nil]; exact hus⟩ (fun j σ H3 _ hpat => by obtain ⟨_, _, _, _, s3, _⟩ := hpat; exact SqT.of (s3 _ _ hu')) ?_ ?_⟩
      · rintro j y p σ H3 hy3 ⟨us3, w4, w5, rfl, s3, hl3, hus3⟩ hp
        obtain ⟨rw, hrw, r, er, hra⟩ := Paired.get? hrs hy3
        subst er
        have hj : j < pt.2.length := (List.getElem?_eq_some_iff.mp hrw).1
        have hul : us3.length = (plsOf (ps.take i)).length + j := by
          rw [Paired.length hus3, List.length_append, rowsPl_len, List.length_take]; omega
        have s4 : Same H3 (upd H3 p (.tup [.int (j : Int), .ref r])) := (Same.refl H3).new hp
        refine ⟨p, _, rfl, SqT.of upd_same, rfl, _, _, rfl, _, _, rfl, rfl, ?_⟩
        refine ⟨_, rfl, .inl ⟨rfl, _, SqL.of (s4 _ _ hl3)⟩, _, rfl, _, rfl, _, rfl, (by show 3 ≤ sizeLine; decide), fun c gc => ?_⟩
        have s5 := s4.new (o := .tup [.str pt.1, .int (j : Int), .ref r]) gc
        refine ⟨l, _, _, rfl, rfl, s5 _ _ hl3, small1000 (by omega), ?_⟩
        have T5 := s5.tups.trans (Tups.lst (ys := us3 ++ [.ref c]) (s5 _ _ hl3))
        have hne : c ≠ l := fun z => by rw [z] at gc; rw [s4 _ _ hl3] at gc; cases gc
        refine ⟨us3 ++ [.ref c], _, _, rfl, (s3.trans s5).put gl, upd_same, ?_⟩
        rw [take_succ_get hrw, rowsPl_snoc, ← List.append_assoc]
        refine Paired.snoc (Paired.mapP hus3 fun _ _ z => z.mono T5) ⟨c, r, rfl, ?_, ((hra.mono s3.tups).mono T5)⟩
        rw [upd_ne hne, upd_same]
        have : (pt.2.take j).length = j := by rw [List.length_take]; omega
        simp only [this]
      · rintro σ H3 ⟨us3, w4, w5, rfl, s3, hl3, hus3⟩
        rw [hwl, List.take_length] at hus3
        refine ⟨us3, _, _, _, _, rfl, s3, hl3, ?_⟩
        rw [take_succ_get hpt, plsOf_snoc]
        exact hus3
    · rintro σ H2 ⟨us, v2, v3, v4, v5, rfl, s2, hl2, hus⟩
      rw [hvl, List.take_length] at hus
      refine ⟨_, rfl, l, _, rfl, .inl ⟨SqL.of hl2, fun p gp => ?_⟩⟩
      have s3 : Same H2 (upd H2 p (.tup us)) := (Same.refl H2).new gp
      exact q p us _ (s2.trans s3) upd_same (Paired.mapP hus fun _ _ z => z.mono s3.tups)
noncomputable def ownOf : Rw → Option Str
  | .set o _ => some o
  | .take o => some o
  | _ => none
noncomputable def key2 (k : Str × Str) : List Key := [Sum.inr k.1, Sum.inr k.2]
theorem key2_inj {a b : Str × Str} (h : key2 a = key2 b) : a = b := by
  unfold key2 at h
  simp only [List.cons.injEq, Sum.inr.injEq, and_true] at h
  exact Prod.ext h.1 h.2
theorem Tups.dT {H : Hp} {l : Addr} {kvs kvs' : List (List Key × V)} (h : H l = some (.dT kvs)) : Tups H (upd H l (.dT kvs')) := fun b zs q => by
  rw [upd_ne (ne_of q h (by intro z; cases z))]
  exact q
theorem putK_new {κ : Type} [DecidableEq κ] {kvs : List (κ × V)} {k : κ} {v : V} (h : k ∉ kvs.map (·.1)) : putK kvs k v = kvs ++ [(k, v)] := by
  unfold putK
  rw [if_neg]
  intro z
  obtain ⟨p, hp, e⟩ := List.any_eq_true.mp z
  exact h (by rw [← of_decide_eq_true e]; exact List.mem_map_of_mem (f := (·.1)) hp)
theorem row_own {H : Hp} {r : Addr} {rw : Rw} (h : RowAt H r rw) : (∃ o rest, (kindS rw = "set" ∨ kindS rw = "take") ∧ ownOf rw = some o ∧ H r = some (.tup (.str (kindS rw) :: .str o :: rest))) ∨ (¬ (kindS rw = "set" ∨ kindS rw = "take") ∧ ownOf rw = none) := by
  cases rw with
  | set o ts => obtain ⟨t, h1, h2⟩ := h; exact .inl ⟨o, _, .inl rfl, rfl, h1⟩
  | take o => exact .inl ⟨o, _, .inr rfl, rfl, h⟩
  | _ => exact .inr ⟨by simp only [kindS]; decide +kernel, rfl⟩
theorem inV2 (k a b : Str) : inV (.str k) [.str a, .str b] = decide (k = a ∨ k = b) := by
  have := inV_strs k [a, b]
  simpa using this
noncomputable abbrev Kk := Str × Str
noncomputable def mlsOf (pls : List Pl) : List (Kk × (Str × Nat)) := pls.filterMap fun x => (ownOf x.2.2).map fun o => ((x.1, o), (x.1, x.2.1))
inductive LiteR : Rw → Prop where
  | set {o : Str} {ts : List (Int × Th)} : LiteR (.set o ts)
  | take {o : Str} : LiteR (.take o)
  | say {ts : List (Int × Th)} : LiteR (.say ts none)
set_option genInjectivity false in
structure NetOk (pls : List Pl) : Prop where
  keys : ((mlsOf pls).map (·.1)).Nodup
  lt : ∀ x ∈ pls, LiteR x.2.2
  len : pls.length ≤ 960
theorem NetOk.mkNodup {pls : List Pl} (n : NetOk pls) : ((mlsOf pls).map (·.1)).Nodup := n.keys
theorem NetOk.lite {pls : List Pl} (n : NetOk pls) {i : Nat} {x : Pl} (h : pls[i]? = some x) : LiteR x.2.2 := n.lt x (List.mem_of_getElem? h)
theorem LiteR.nb {rw : Rw} (h : LiteR rw) : ¬ kindS rw = "bring" ∧ ¬ kindS rw = "give" := by
  cases h <;> simp only [kindS] <;> decide +kernel
noncomputable def MvAt (H : Hp) (kv : List Key × V) (x : Kk × (Str × Nat)) : Prop := kv.1 = key2 x.1 ∧ ∃ t, kv.2 = .ref t ∧ H t = some (.tup [.str x.2.1, .int (x.2.2 : Int)])
theorem MvAt.mono {H H' : Hp} (s : Tups H H') {kv : List Key × V} {x : Kk × (Str × Nat)} (h : MvAt H kv x) : MvAt H' kv x := by
  obtain ⟨e, t, e2, h⟩ := h
  exact ⟨e, t, e2, s _ _ h⟩
theorem keys_of {β : Type} {F : List Key × V → Kk × β → Prop} (hF : ∀ kv x, F kv x → kv.1 = key2 x.1) : ∀ {kvs : List (List Key × V)} {xs : List (Kk × β)}, Paired F kvs xs → kvs.map (·.1) = (xs.map (·.1)).map key2 := by
  intro kvs xs h
  induction h with
  | nil => rfl
  | cons h t ih => rw [List.map_cons, List.map_cons, List.map_cons, ih, hF _ _ h]
theorem val_of {β : Type} {F : List Key × V → Kk × β → Prop} (hF : ∀ kv x, F kv x → kv.1 = key2 x.1) : ∀ {kvs : List (List Key × V)} {xs : List (Kk × β)} {x : Kk × β}, Paired F kvs xs → (xs.map (·.1)).Nodup → x ∈ xs → ∃ kv, F kv x ∧ valV kvs (key2 x.1) = some kv.2 := by
  intro kvs xs x hp
  induction hp with
  | nil => intro _ h; simp at h
  | @cons kv y _ _ hy t ih =>
    intro hn h
    rw [List.map_cons, List.nodup_cons] at hn
    rcases List.mem_cons.mp h with e | e
    · subst e
      exact ⟨kv, hy, valV_pos (hF _ _ hy)⟩
    · obtain ⟨kv', h1, h2⟩ := ih hn.2 e
      refine ⟨kv', h1, ?_⟩
      rw [valV_neg (fun z => hn.1 ?_)]
      · exact h2
      · have : key2 y.1 = key2 x.1 := (hF _ _ hy).symm.trans z
        rw [key2_inj this]
        exact List.mem_map_of_mem (f := (·.1)) e
theorem new_key {β : Type} {F : List Key × V → Kk × β → Prop} (hF : ∀ kv x, F kv x → kv.1 = key2 x.1) {kvs : List (List Key × V)} {xs : List (Kk × β)} {k : Kk} (h : Paired F kvs xs) (hk : k ∉ xs.map (·.1)) : key2 k ∉ kvs.map (·.1) := by
  rw [keys_of hF h]
  intro z
  obtain ⟨k', h1, h2⟩ := List.mem_map.mp z
  rw [key2_inj h2] at h1
  exact hk h1
theorem take_nodup {α β : Type} {l : List (α × β)} {a b : List (α × β)} (h : (l.map (·.1)).Nodup) (e : l = a ++ b) : (a.map (·.1)).Nodup := by
  rw [e, List.map_append] at h
  exact (List.nodup_append.mp h).1
theorem mls_app (a b : List Pl) : mlsOf (a ++ b) = mlsOf a ++ mlsOf b := by unfold mlsOf; rw [List.filterMap_append]
theorem mls_split (pls : List Pl) (i : Nat) : mlsOf pls = mlsOf (pls.take i) ++ mlsOf (pls.drop i) := by rw [← mls_app, List.take_append_drop]
theorem mls_len (pls : List Pl) : (mlsOf pls).length ≤ pls.length := List.length_filterMap_le _ _
theorem szK {n : Nat} (h : n ≤ 10000) : n < sizeLine := by
  have : sizeLine = 16777216 := sizeLine_eq
  omega
noncomputable def spMadeV : Sp := fun vs H Q _ => ∃ (a : Addr) (ps : List Pt), vs = [.ref a] ∧ PartsF H a ps ∧ PsFit ps ∧ NetOk (plsOf ps) ∧ ∀ (d : Addr) (kvs : List (List Key × V)) (H' : Hp), Same H H' → H d = none → H' d = some (.dT kvs) → Paired (MvAt H') kvs (mlsOf (plsOf ps)) → Q (.ref d) H'
theorem ok_made (T : Txt K mg) : L2.Cl P w K mg base 2 "made" ["parts"] spMadeV := by
  have C_placed_rows := ok_placed (P := P) (w := w) (base := base) T
  refine Cl.of T.d_made sc_made (fun vs H Q E h => ?_) (fun _ _ _ _ _ _ us hl => len1 us hl (fun _ => rfl)) (fun fa cdv A outer s H vs Q E hr h => ?_)
  · obtain ⟨a, ps, rfl, _⟩ := h
    rfl
  · obtain ⟨a, ps, rfl, hpf, hfit, hnet, q⟩ := h
    have hu := hu_of hr
    have hpl := hnet.len
    refine ⟨_, (pss_cons (ps_set (i := 1) sc_made.nd rfl (Or.inl rfl) pe_dnewT)
      (pss_cons (ps_for PassesOwn.never rfl (pi_tup (pe_fn C_placed_rows hr (by rfl) (pa_cons (pv 0) pa_nil))) (pg_tup rfl (pgs_cons (pg_name (i := 2) sc_made.nd rfl (Or.inl rfl)) (pgs_cons (pg_name (i := 3) sc_made.nd rfl (Or.inl rfl)) (pgs_cons (pg_name (i := 4) sc_made.nd rfl (Or.inl rfl)) pgs_nil))))
        (pss_one (ps_if (pt_cmpR op_in_seq (pe_ix ix_tup (pv 4) pe_int (fun _ _ => rfl)) (pe_tup (pa_cons pe_str (pa_cons pe_str pa_nil))) (by with_unfolding_all rfl))
          (pss_one (ps_dput hu (pv 1) (pe_tup (pa_cons (pv 2) (pa_cons (pe_ix ix_tup (pv 4) pe_int (fun _ _ => rfl)) pa_nil))) (pe_tup (pa_cons (pv 2) (pa_cons (pv 3) pa_nil))) rfl)) pss_nil)))
      (pss_one (ps_ret (pv 1))))), ?_⟩
    intro d gd
    have s1 : Same H (upd H d (.dT [])) := (Same.refl H).new gd
    refine ⟨_, rfl, a, ps, rfl, s1.partsF hpf, hfit, fun p vs H1 s2 hp hvs => ?_⟩
    have s12 := s1.trans s2
    have hd1 : H1 d = some (.dT []) := s2 _ _ upd_same
    have hvl : vs.length = (plsOf ps).length := Paired.length hvs
    refine ⟨p, rfl, ⟨_, SqT.of hp⟩, for_tup (K := K) (a := p) (xs := vs) (fun i σ H2 => ∃ (kvs : List (List Key × V)) (v2 v3 v4 : Option V), σ = [some (.ref a), some (.ref d), v2, v3, v4] ∧ Same H H2 ∧ H2 p = some (.tup vs) ∧ Tups H1 H2 ∧ H2 d = some (.dT kvs) ∧ Paired (MvAt H2) kvs (mlsOf ((plsOf ps).take i)))
      ⟨[], none, none, none, rfl, s12, hp, Tups.refl H1, hd1, by rw [List.take_zero]; exact .nil⟩ (fun i σ H2 _ hpat => by obtain ⟨_, _, _, _, _, _, h, _⟩ := hpat; exact SqT.of h) ?_ ?_⟩
    · rintro i y σ H2 hy ⟨kvs, v2, v3, v4, rfl, s3, hp2, T2, hd2, hk⟩
      obtain ⟨⟨n, j, rw⟩, hx, t, r, ey, ht, hra⟩ := Paired.get? hvs hy
      subst ey
      have hra2 := hra.mono T2
      have htk : mlsOf ((plsOf ps).take (i + 1)) = mlsOf ((plsOf ps).take i) ++ mlsOf [(n, j, rw)] := by
        rw [take_succ_get hx, mls_app]
      have hkl : kvs.length ≤ 960 := by
        rw [Paired.length hk]
        have h2 := mls_len ((plsOf ps).take i)
        rw [List.length_take] at h2
        omega
      refine ⟨t, _, rfl, SqT.of (T2 _ _ ht), rfl, _, _, rfl, _, _, rfl, _, _, rfl, rfl, ?_⟩
      rcases row_own hra2 with ⟨o, rest, hkd, ho, hrt⟩ | ⟨hkd, ho⟩
      · have z0 : atI (V.str (kindS rw) :: V.str o :: rest) 0 = some (.str (kindS rw)) := atI_nat (j := 0) rfl
        have z1 : atI (V.str (kindS rw) :: V.str o :: rest) 1 = some (.str o) := atI_nat (j := 1) rfl
        refine ⟨_, rfl, r, _, _, _, rfl, rfl, SqT.of hrt, z0, (by show 2 ≤ sizeLine; decide), fun c gc => ?_⟩
        have s4 : Same H2 (upd H2 c (.tup [.str "set", .str "take"])) := (Same.refl H2).new gc
        refine ⟨c, _, rfl, .inr (SqT.of upd_same), rfl, rfl, _, rfl, ?_⟩
        rw [if_neg (by decide), inV2, decide_eq_true hkd]
        refine iteT ?_
        refine ⟨_, rfl, _, rfl, (by show 2 ≤ sizeLine; decide), fun e ge => ?_⟩
        have s5 := s4.new (o := .tup [.str n, .int (j : Int)]) ge
        refine ⟨_, rfl, _, rfl, _, rfl, r, _, _, _, rfl, rfl, SqT.of (s5 _ _ hrt), z1, (by show 2 ≤ sizeLine; decide), fun g gg => ?_⟩
        have s6 := s5.new (o := .tup [.str n, .str o]) gg
        have hd6 := s6 _ _ hd2
        have hg6 : upd (upd (upd H2 c (.tup [.str "set", .str "take"])) e (.tup [.str n, .int (j : Int)])) g (.tup [.str n, .str o]) g = some (.tup ((key2 (n, o)).map kV)) := upd_same
        refine ⟨d, _, rfl, DPut.t (k := key2 (n, o)) hd6 hg6 (szK (by omega)), ?_⟩
        have h3 : mlsOf [(n, j, rw)] = [((n, o), (n, j))] := by simp [mlsOf, ho]
        have hnew : key2 (n, o) ∉ kvs.map (·.1) := new_key (fun _ _ h => h.1) hk (fun z => by
          have h1 := take_nodup hnet.mkNodup (mls_split (plsOf ps) (i + 1))
          rw [htk, h3, List.map_append] at h1
          exact (List.nodup_append.mp h1).2.2 _ z _ (List.mem_singleton.mpr rfl) rfl)
        rw [putK_new hnew]
        have T6 := s6.tups.trans (Tups.dT (kvs' := kvs ++ [(key2 (n, o), .ref e)]) hd6)
        refine ⟨kvs ++ [(key2 (n, o), .ref e)], _, _, _, rfl, (s3.trans s6).put gd, T6 _ _ hp2, T2.trans T6, upd_same, ?_⟩
        rw [htk, h3]
        refine Paired.snoc (Paired.mapP hk fun _ _ z => z.mono T6) ⟨rfl, e, rfl, Tups.dT (kvs' := kvs ++ [(key2 (n, o), .ref e)]) hd6 _ _ (upd_keep upd_same gg)⟩
      · obtain ⟨x1, rest, hrt⟩ := hra2.kind
        have z0 : atI (V.str (kindS rw) :: x1 :: rest) 0 = some (.str (kindS rw)) := atI_nat (j := 0) rfl
        refine ⟨_, rfl, r, _, _, _, rfl, rfl, SqT.of hrt, z0, (by show 2 ≤ sizeLine; decide), fun c gc => ?_⟩
        have s4 : Same H2 (upd H2 c (.tup [.str "set", .str "take"])) := (Same.refl H2).new gc
        refine ⟨c, _, rfl, .inr (SqT.of upd_same), rfl, rfl, _, rfl, ?_⟩
        rw [if_neg (by decide), inV2, decide_eq_false hkd]
        refine iteF ?_
        have h3 : mlsOf [(n, j, rw)] = [] := by simp [mlsOf, ho]
        exact ⟨kvs, _, _, _, rfl, s3.trans s4, s4 _ _ hp2, T2.trans s4.tups, s4 _ _ hd2, by rw [htk, h3, List.append_nil]; exact Paired.mapP hk fun _ _ z => z.mono s4.tups⟩
    · rintro σ H2 ⟨kvs, v2, v3, v4, rfl, s3, hp2, T2, hd2, hk⟩
      rw [hvl, List.take_length] at hk
      exact ⟨_, rfl, q d kvs H2 s3 gd hd2 hk⟩
noncomputable def spGivenL : Sp := fun vs H Q _ => ∃ (a : Addr) (ps : List Pt), vs = [.ref a] ∧ PartsF H a ps ∧ PsFit ps ∧ NetOk (plsOf ps) ∧ ∀ (d : Addr) (H' : Hp), Same H H' → H d = none → H' d = some (.dT []) → Q (.ref d) H'
theorem ok_given_owns (T : Txt K mg) : L2.Cl P w K mg base 2 "given_owns" ["parts"] spGivenL := by
  have C_placed_rows := ok_placed (P := P) (w := w) (base := base) T
  refine Cl.of T.d_given_owns sc_given_owns (fun vs H Q E h => ?_) (fun _ _ _ _ _ _ us hl => len1 us hl (fun _ => rfl)) (fun fa cdv A outer s H vs Q E hr h => ?_)
  · obtain ⟨a, ps, rfl, _⟩ := h
    rfl
  · obtain ⟨a, ps, rfl, hpf, hfit, hnet, q⟩ := h
    have hu := hu_of hr
    refine ⟨_, (pss_cons (ps_set (i := 1) sc_given_owns.nd rfl (Or.inl rfl) pe_dnewT)
      (pss_cons (ps_for PassesOwn.never rfl (pi_tup (pe_fn C_placed_rows hr (by rfl) (pa_cons (pv 0) pa_nil))) (pg_tup rfl (pgs_cons (pg_name (i := 2) sc_given_owns.nd rfl (Or.inl rfl)) (pgs_cons (pg_name (i := 3) sc_given_owns.nd rfl (Or.inl rfl)) (pgs_cons (pg_name (i := 4) sc_given_owns.nd rfl (Or.inl rfl)) pgs_nil))))
        (pss_one (ps_if (pt_cmpR op_eq (pe_ix ix_tup (pv 4) pe_int (fun _ _ => rfl)) pe_str (nomark _))
          pss_never pss_nil)))
      (pss_one (ps_ret (pv 1))))), ?_⟩
    intro d gd
    have s1 : Same H (upd H d (.dT [])) := (Same.refl H).new gd
    have hd1 : upd H d (.dT []) d = some (.dT []) := upd_same
    generalize upd H d (.dT []) = H0 at s1 hd1 ⊢
    refine ⟨_, rfl, a, ps, rfl, s1.partsF hpf, hfit, fun p vs H1 s2 hp hvs => ?_⟩
    have hd2 := s2 _ _ hd1
    refine ⟨p, rfl, ⟨_, SqT.of hp⟩, for_tup (K := K) (a := p) (xs := vs) (fun i σ H2 => ∃ v2 v3 v4 : Option V, σ = [some (.ref a), some (.ref d), v2, v3, v4] ∧ H2 = H1)
      ⟨none, none, none, rfl, rfl⟩ (by rintro i σ H2 _ ⟨_, _, _, _, rfl⟩; exact SqT.of hp) ?_ ?_⟩
    · rintro i y σ H2 hy ⟨v2, v3, v4, rfl, rfl⟩
      obtain ⟨⟨n, j, rw⟩, hx, t, r, ey, ht, hra⟩ := Paired.get? hvs hy
      subst ey
      obtain ⟨x1, rest, hrt⟩ := hra.kind
      have z0 : atI (V.str (kindS rw) :: x1 :: rest) 0 = some (.str (kindS rw)) := atI_nat (j := 0) rfl
      refine ⟨t, _, rfl, SqT.of ht, rfl, _, _, rfl, _, _, rfl, _, _, rfl, rfl, ?_⟩
      refine ⟨_, rfl, r, _, _, _, rfl, rfl, SqT.of hrt, z0, rfl, _, rfl, iteSN (hnet.lite hx).nb.2 ?_⟩
      exact ⟨_, _, _, rfl, rfl⟩
    · rintro σ H2 ⟨v2, v3, v4, rfl, rfl⟩
      exact ⟨_, rfl, q d _ (s1.trans s2) gd hd2⟩
theorem ok_links (T : Txt K mg) : L2.Cl P w K mg base 3 "links" ["parts"] spGivenL := by
  have C_placed_rows := ok_placed (P := P) (w := w) (base := base) T
  have C_given_owns := ok_given_owns (P := P) (w := w) (base := base) T
  refine Cl.of T.d_links sc_links (fun vs H Q E h => ?_) (fun _ _ _ _ _ _ us hl => len1 us hl (fun _ => rfl)) (fun fa cdv A outer s H vs Q E hr h => ?_)
  · obtain ⟨a, ps, rfl, _⟩ := h
    rfl
  · obtain ⟨a, ps, rfl, hpf, hfit, hnet, q⟩ := h
    have hu := hu_of hr
    refine ⟨_, (pss_cons (ps_set (i := 1) sc_links.nd rfl (Or.inl rfl) (pe_fn C_given_owns hr (by rfl) (pa_cons (pv 0) pa_nil)))
      (pss_cons (ps_set (i := 2) sc_links.nd rfl (Or.inl rfl) pe_dnewT)
      (pss_cons (ps_for PassesOwn.never rfl (pi_tup (pe_fn C_placed_rows hr (by rfl) (pa_cons (pv 0) pa_nil))) (pg_tup rfl (pgs_cons (pg_name (i := 3) sc_links.nd rfl (Or.inl rfl)) (pgs_cons (pg_name (i := 4) sc_links.nd rfl (Or.inl rfl)) (pgs_cons (pg_name (i := 5) sc_links.nd rfl (Or.inl rfl)) pgs_nil))))
        (pss_one (ps_if (pt_cmpR op_eq (pe_ix ix_tup (pv 5) pe_int (fun _ _ => rfl)) pe_str (nomark _))
          pss_never pss_nil)))
      (pss_one (ps_ret (pv 2)))))), ?_⟩
    refine ⟨_, rfl, a, ps, rfl, hpf, hfit, hnet, fun ow H1 s1 gow how => ?_⟩
    intro d gd
    have s2 : Same H (upd H1 d (.dT [])) := s1.new gd
    have hd2 : upd H1 d (.dT []) d = some (.dT []) := upd_same
    have gd0 : H d = none := s1.free gd
    generalize upd H1 d (.dT []) = H2 at s2 hd2 ⊢
    refine ⟨_, rfl, a, ps, rfl, s2.partsF hpf, hfit, fun p vs H3 s3 hp hvs => ?_⟩
    have hd3 := s3 _ _ hd2
    refine ⟨p, rfl, ⟨_, SqT.of hp⟩, for_tup (K := K) (a := p) (xs := vs) (fun i σ H4 => ∃ v3 v4 v5 : Option V, σ = [some (.ref a), some (.ref ow), some (.ref d), v3, v4, v5, none, none] ∧ H4 = H3)
      ⟨none, none, none, rfl, rfl⟩ (by rintro i σ H4 _ ⟨_, _, _, _, rfl⟩; exact SqT.of hp) ?_ ?_⟩
    · rintro i y σ H4 hy ⟨v3, v4, v5, rfl, rfl⟩
      obtain ⟨⟨n, j, rw⟩, hx, t, r, ey, ht, hra⟩ := Paired.get? hvs hy
      subst ey
      obtain ⟨x1, rest, hrt⟩ := hra.kind
      have z0 : atI (V.str (kindS rw) :: x1 :: rest) 0 = some (.str (kindS rw)) := atI_nat (j := 0) rfl
      refine ⟨t, _, rfl, SqT.of ht, rfl, _, _, rfl, _, _, rfl, _, _, rfl, rfl, ?_⟩
      refine ⟨_, rfl, r, _, _, _, rfl, rfl, SqT.of hrt, z0, rfl, _, rfl, iteSN (hnet.lite hx).nb.1 ?_⟩
      exact ⟨_, _, _, rfl, rfl⟩
    · rintro σ H4 ⟨v3, v4, v5, rfl, rfl⟩
      exact ⟨_, rfl, q d _ (s2.trans s3) gd0 hd3⟩
noncomputable def spMakers : Sp := fun vs H Q _ => ∃ (a : Addr) (ps : List Pt), vs = [.ref a] ∧ PartsF H a ps ∧ PsFit ps ∧ NetOk (plsOf ps) ∧ ∀ (d : Addr) (kvs : List (List Key × V)) (H' : Hp), Same H H' → H' d = some (.dT kvs) → Paired (MvAt H') kvs (mlsOf (plsOf ps)) → Q (.ref d) H'
theorem ok_makers (T : Txt K mg) : L2.Cl P w K mg base 4 "makers" ["parts"] spMakers := by
  have C_made := ok_made (P := P) (w := w) (base := base) T
  have C_links := ok_links (P := P) (w := w) (base := base) T
  refine Cl.of T.d_makers sc_makers (fun vs H Q E h => ?_) (fun _ _ _ _ _ _ us hl => len1 us hl (fun _ => rfl)) (fun fa cdv A outer s H vs Q E hr h => ?_)
  · obtain ⟨a, ps, rfl, _⟩ := h
    rfl
  · obtain ⟨a, ps, rfl, hpf, hfit, hnet, q⟩ := h
    have hu := hu_of hr
    refine ⟨_, (pss_cons (ps_set (i := 1) sc_makers.nd rfl (Or.inl rfl) (pe_fn C_made hr (by rfl) (pa_cons (pv 0) pa_nil)))
      (pss_cons (ps_set (i := 2) sc_makers.nd rfl (Or.inl rfl) (pe_fn C_links hr (by rfl) (pa_cons (pv 0) pa_nil)))
      (pss_cons (ps_for PassesOwn.never rfl (pi_dictT (pv 2)) (pg_name (i := 3) sc_makers.nd rfl (Or.inl rfl))
        pss_never)
      (pss_one (ps_ret (pv 1)))))), ?_⟩
    refine ⟨_, rfl, a, ps, rfl, hpf, hfit, hnet, fun f mkv H1 s1 gf hf1 hmk => ?_⟩
    refine ⟨_, rfl, a, ps, rfl, s1.partsF hpf, hfit, hnet, fun on H2 s2 gon hon => ?_⟩
    have hfo : f ≠ on := fun z => by rw [z, gon] at hf1; cases hf1
    have gonH : H on = none := s1.free gon
    have s02 := s1.trans s2
    refine ⟨_, rfl, on, [], rfl, hon, fun ob vs hvs => ?_⟩
    cases hvs
    have T3 : Tups H2 (upd H2 on (.frz ob (.dT []))) := fun b zs e => by rw [upd_ne (ne_of e hon (by intro z; cases z))]; exact e
    have s3 : Same H (upd H2 on (.frz ob (.dT []))) := s02.put gonH
    have hf3 : upd H2 on (.frz ob (.dT [])) f = some (.dT mkv) := by rw [upd_ne hfo]; exact s2 _ _ hf1
    have hon3 : upd H2 on (.frz ob (.dT [])) on = some (.frz ob (.dT [])) := upd_same
    generalize upd H2 on (.frz ob (.dT [])) = H3 at T3 s3 hf3 hon3 ⊢
    refine for_dict (d := on) (o := ob) (u := .dT []) (ks := []) (fun i σ H4 => σ = [some (.ref a), some (.ref f), some (.ref on), none, none, none, none] ∧ H4 = H3) ⟨rfl, rfl⟩ (by rintro i σ H4 _ ⟨_, rfl⟩; exact hon3) (fun i y σ H4 hy _ => by simp at hy) ?_
    rintro σ H4 ⟨rfl, rfl⟩
    exact ⟨_, rfl, q f mkv _ s3 hf3 (Paired.mapP hmk fun _ _ z => (z.mono s2.tups).mono T3)⟩
noncomputable def spSumNames : Sp := fun vs H Q _ => ∃ (t : Addr) (ts : List (Int × Th)) (k : Int), vs = [.ref t, .int k] ∧ TermsAt H t ts ∧
  ∀ (p : Addr) (ws : List V) (H' : Hp), Same H H' → H' p = some (.tup ws) → Names H' ws (namesOf k ts) → Q (.ref p) H'
theorem ok_sum_names (T : Txt K mg) : L2.Cl P w K mg base 1 "sum_names" ["terms", "first"] spSumNames := by
  refine Cl.of T.d_sum_names sc_sum_names (fun vs H Q E h => ?_) (fun _ _ _ _ _ _ us hl => len2 us hl (fun _ _ => rfl)) (fun f cdv A outer s H vs Q E hr h => ?_)
  · obtain ⟨t, ts, k, rfl, _⟩ := h
    rfl
  · obtain ⟨t, ts, k, rfl, ⟨⟨vs, ht, hts⟩, lo, hi⟩, q⟩ := h
    have hvl : vs.length = ts.length := Paired.length hts
    refine ⟨_, (pss_cons (ps_set (i := 2) sc_sum_names.nd rfl (Or.inl rfl) (pe_lst pa_nil))
      (pss_cons (ps_for PassesOwn.never rfl (pi_enumT (by rfl) T.n_enumerate (pa_cons (pv 0) pa_nil)) (pg_tup rfl (pgs_cons (pg_name (i := 3) sc_sum_names.nd rfl (Or.inl rfl)) (pgs_cons (pg_name (i := 4) sc_sum_names.nd rfl (Or.inl rfl)) pgs_nil)))
        (pss_one (ps_if (pt_val (pe_callB call_isinst (by rfl) T.n_isinstance PyProof.Rows.boot_isinstance (pa_cons (pe_ix ix_tup (pv 4) pe_int (fun _ _ => rfl)) (pa_cons (pe_bltn (v := .ty "str") (by rfl) T.n_str boot_str rfl) pa_nil))))
          (pss_one (ps_expr (pe_bm PySem.F.plainAttrs_list PySem.F.slot_list_append PySem.F.type_list_append mt_append (pv 2) (pa_cons (pe_tup (pa_cons (pe_op op_add (pv 1) (pe_op op_mul pe_int (pv 3))) (pa_cons (pe_ix ix_tup (pv 4) pe_int (fun _ _ => rfl)) pa_nil))) pa_nil)))) pss_nil)))
      (pss_one (ps_ret (pe_callTy call_tuple_of (by rfl) T.n_tuple boot_tuple (pa_cons (pv 2) pa_nil)))))), ?_⟩
    refine ⟨(by show 0 ≤ sizeLine; decide), fun l hl => ?_⟩
    have s1 : Same H (upd H l (.lst [])) := (Same.refl H).new hl
    refine ⟨_, rfl, t, rfl, ⟨_, SqT.of (s1 _ _ ht)⟩, for_enum (K := K) (a := t) (xs := vs) (fun i σ H2 => ∃ (ws : List V) (v3 v4 : Option V), σ = [some (.ref t), some (.int k), some (.ref l), v3, v4] ∧ Same H H2 ∧ H2 l = some (.lst ws) ∧ Names H2 ws (namesOf k (ts.take i)) ∧ ws.length ≤ i)
      ⟨[], none, none, rfl, s1, upd_same, .nil, Nat.le_refl _⟩ (fun i σ H2 _ hpat => by obtain ⟨_, _, _, _, s2, _⟩ := hpat; exact SqT.of (s2 _ _ ht)) ?_ ?_⟩
    · rintro i y pe σ H2 hx ⟨ws, v3, v4, rfl, s2, hl2, hn, hwl⟩ hpe
      have hi' : i < vs.length := (List.getElem?_eq_some_iff.mp hx).1
      obtain ⟨tm, htm, p, ep, hp, hok⟩ := Paired.get? hts hx
      subst ep
      have s3 := s2.new (o := .tup [.int i, .ref p]) hpe
      have hl3 := upd_keep (o := .tup [.int i, .ref p]) hl2 hpe
      have hn3 : Names (upd H2 pe (.tup [.int i, .ref p])) ws (namesOf k (ts.take i)) := hn.mono (Tups.new hpe)
      have hp3 := s3 _ _ hp
      refine ⟨pe, _, rfl, SqT.of upd_same, rfl, _, _, rfl, _, _, rfl, rfl, ?_⟩
      obtain ⟨sg, th⟩ := tm
      cases th with
      | num n =>
        refine ⟨_, rfl, p, _, _, _, rfl, rfl, SqT.of hp3, rfl, _, _, _, _, rfl, .int n, kit_int_str _, _, rfl, iteF ?_⟩
        refine ⟨ws, _, _, rfl, s3, hl3, ?_, by omega⟩
        rw [take_succ_get htm, namesOf_append]
        simpa [L2.namesOf] using hn3
      | nam x =>
        refine ⟨_, rfl, p, _, _, _, rfl, rfl, SqT.of hp3, rfl, _, _, _, _, rfl, .str x, kit_same _ _, _, rfl, iteT ?_⟩
        refine ⟨_, rfl, .inl ⟨rfl, _, SqL.of hl3⟩, _, rfl, _, rfl, _, _, rfl, rfl, .inl ⟨by decide, by decide⟩, _, _, rfl, rfl, _, rfl, p, _, _, _, rfl, rfl, SqT.of hp3, rfl, (by show 2 ≤ sizeLine; decide), fun p2 hp2' => ?_⟩
        refine ⟨l, _, _, rfl, rfl, upd_keep hl3 hp2', small1000 (by omega), ?_⟩
        refine ⟨_, _, _, rfl, (s3.new hp2').put hl, upd_same, ?_, by simp; omega⟩
        rw [take_succ_get htm, namesOf_append]
        refine Paired.snoc ((hn3.mono (Tups.new hp2')).mono (Tups.lst (upd_keep hl3 hp2'))) ⟨p2, rfl, ?_⟩
        rw [upd_ne (ne_of_none hl3 hp2').symm, upd_same]
        have e : (ts.take i).length = i := by simp; omega
        show some (HO.tup [V.int (k + 2 * (i : Int)), V.str x]) = some (HO.tup [V.int (k + 2 * ((ts.take i).length : Int)), V.str x])
        rw [e]
    · rintro σ H2 ⟨ws, v3, v4, rfl, s2, hl2, hn, hwl⟩
      refine ⟨_, rfl, l, _, rfl, .inl ⟨SqL.of hl2, fun p hp => ?_⟩⟩
      refine q p ws _ (s2.new hp) upd_same ?_
      rw [hvl, List.take_length] at hn
      exact hn.mono (Tups.new hp)
noncomputable def spWhenL : Sp := fun vs H Q _ => ∃ (r : Addr) (k : Str) (v : V), vs = [.ref r] ∧ H r = some (.tup [.str k, v, .non]) ∧ ∀ (p : Addr) (H' : Hp), Same H H' → H' p = some (.tup []) → Q (.ref p) H'
noncomputable def RdAt (H : Hp) (r : Addr) (ds : List (Int × Str)) : Prop :=
  (∃ (own : Str) (t : Addr) (ts : List (Int × Th)), H r = some (.tup [.str "set", .str own, .ref t]) ∧ TermsAt H t ts ∧ ds = namesOf 3 ts) ∨
  (∃ (t : Addr) (ts : List (Int × Th)), H r = some (.tup [.str "say", .ref t, .non]) ∧ TermsAt H t ts ∧ ds = namesOf 1 ts) ∨
  (∃ own : Str, H r = some (.tup [.str "take", .str own]) ∧ ds = [])
noncomputable def spReadNames : Sp := fun vs H Q _ => ∃ (r : Addr) (ds : List (Int × Str)), vs = [.ref r] ∧ RdAt H r ds ∧
  ∀ (p : Addr) (ws : List V) (H' : Hp), Same H H' → H' p = some (.tup ws) → Names H' ws ds → Q (.ref p) H'
theorem ok_when_names (T : Txt K mg) : L2.Cl P w K mg base 1 "when_names" ["row"] spWhenL := by
  refine Cl.of T.d_when_names sc_when_names (fun vs H Q E h => ?_) (fun _ _ _ _ _ _ us hl => len1 us hl (fun _ => rfl)) (fun f cdv A outer s H vs Q E hr h => ?_)
  · obtain ⟨r, k, v, rfl, _⟩ := h
    rfl
  · obtain ⟨r, k, v, rfl, hr0, q⟩ := h
    refine ⟨_, (pss_cons (ps_if (pt_cmp (pc_isN (pe_ix ix_tup (pv 0) pe_int (fun _ _ => rfl))))
        (pss_one (ps_ret (pe_tup pa_nil))) pss_nil)
      pss_never), ?_⟩
    refine ⟨_, rfl, r, _, _, _, rfl, rfl, SqT.of hr0, rfl, _, rfl, iteT ?_⟩
    exact ⟨(by show 0 ≤ sizeLine; decide), fun p hp => q p _ ((Same.refl H).new hp) upd_same⟩
theorem ok_read_names (T : Txt K mg) : L2.Cl P w K mg base 4 "read_names" ["row"] spReadNames := by
  have C_sum_names := ok_sum_names (P := P) (w := w) (base := base) T
  have C_when_names := ok_when_names (P := P) (w := w) (base := base) T
  refine Cl.of T.d_read_names sc_read_names (fun vs H Q E h => ?_) (fun _ _ _ _ _ _ us hl => len1 us hl (fun _ => rfl)) (fun f cdv A outer s H vs Q E hr h => ?_)
  · obtain ⟨r, ds, rfl, _⟩ := h
    rfl
  · obtain ⟨r, ds, rfl, hrow, q⟩ := h
    refine ⟨_, (pss_cons (ps_set (i := 1) sc_read_names.nd rfl (Or.inl rfl) (pe_ix ix_tup (pv 0) pe_int (fun _ _ => rfl)))
      (pss_cons (ps_if (pt_cmpR op_eq (pv 1) pe_str (nomark _))
        (pss_one (ps_ret (pe_fn C_sum_names hr (by rfl) (pa_cons (pe_ix ix_tup (pv 0) pe_int (fun _ _ => rfl)) (pa_cons pe_int pa_nil))))) pss_nil)
      (pss_cons (ps_if (pt_cmpR op_eq (pv 1) pe_str (nomark _))
        pss_never pss_nil)
      (pss_cons (ps_if (pt_cmpR op_eq (pv 1) pe_str (nomark _))
        (pss_one (ps_ret (pe_op op_catA (pe_fn C_when_names hr (by rfl) (pa_cons (pv 0) pa_nil)) (pe_fn C_sum_names hr (by rfl) (pa_cons (pe_ix ix_tup (pv 0) pe_int (fun _ _ => rfl)) (pa_cons pe_int pa_nil)))))) pss_nil)
      (pss_cons (ps_if (pt_cmpR op_eq (pv 1) pe_str (nomark _))
        pss_never pss_nil)
      (pss_one (ps_ret (pe_tup pa_nil)))))))), ?_⟩
    rcases hrow with ⟨own, t, ts, h1, h2, rfl⟩ | ⟨t, ts, h1, h2, rfl⟩ | ⟨own, h1, rfl⟩
    · refine ⟨_, rfl, r, _, _, _, rfl, rfl, SqT.of h1, rfl, ?_⟩
      refine ⟨_, rfl, rfl, _, rfl, iteSE ?_⟩
      exact ⟨_, rfl, r, _, _, _, rfl, rfl, SqT.of h1, rfl, t, ts, 3, rfl, h2, q⟩
    · refine ⟨_, rfl, r, _, _, _, rfl, rfl, SqT.of h1, rfl, ?_⟩
      refine ⟨_, rfl, rfl, _, rfl, iteSN (by decide +kernel) ?_⟩
      refine ⟨_, rfl, rfl, _, rfl, iteSN (by decide +kernel) ?_⟩
      refine ⟨_, rfl, rfl, _, rfl, iteSE ?_⟩
      refine ⟨_, rfl, r, _, _, rfl, h1, fun p1 H1 s1 g1 => ?_⟩
      refine ⟨_, rfl, r, _, _, _, rfl, rfl, SqT.of (s1 _ _ h1), rfl, t, ts, 1, rfl, h2.mono s1.tups, fun p2 us H2 s2 g2 m2 => ?_⟩
      have e2 : us.length = (namesOf 1 ts).length := Paired.length m2
      have := namesOf_length ts 1
      have := h2.hi
      exact ⟨p1, p2, _, _, rfl, rfl, SqT.of (s2 _ _ g1), SqT.of g2, (by show 0 + us.length ≤ sizeLine; exact Nat.le_of_lt (small1000 (by omega))), (fun _ => q p2 us H2 (s1.trans s2) g2 m2), (fun z => absurd rfl z), fun z => absurd rfl z⟩
    · refine ⟨_, rfl, r, _, _, _, rfl, rfl, SqT.of h1, rfl, ?_⟩
      refine ⟨_, rfl, rfl, _, rfl, iteSN (by decide +kernel) ?_⟩
      refine ⟨_, rfl, rfl, _, rfl, iteSN (by decide +kernel) ?_⟩
      refine ⟨_, rfl, rfl, _, rfl, iteSN (by decide +kernel) ?_⟩
      refine ⟨_, rfl, rfl, _, rfl, iteSN (by decide +kernel) ?_⟩
      exact ⟨(by show 0 ≤ sizeLine; decide), fun p hp => q p _ _ ((Same.refl H).new hp) upd_same .nil⟩
theorem ntH {σ : L2.St} {H : Hp} {A B : Hp → Prop} (h : A H) : tNoTest σ H fun b H5 => if b = true then A H5 else B H5 := by
  show if true = true then A H else B H
  rw [if_pos rfl]
  exact h
theorem iteNX {c A B : Prop} [Decidable c] (hc : ¬ c) (h : A) : if (!decide c) = true then A else B := by
  rw [if_pos (by simp [hc])]
  exact h
noncomputable def spEmpty (CP : Addr) : Sp := fun vs H Q _ => ∃ (w : Addr) (p : Str) (N : Nt), vs = [.ref w, .str p] ∧ WalkAt CP H w N ∧ ∀ (t : Addr) (H' : Hp), Same H H' → H' t = some (.tup []) → Q (.ref t) H'
theorem ok_loads_of (T : Tc K mg CP CG) : MCl P w K mg base 1 CP "loads_of" ["self", "part"] (spEmpty CP) := by
  refine MCl.of T.m_loads_of sc_Walk_loads_of (fun vs H Q E h => ?_) (fun _ _ _ _ _ _ us hl => len2 us hl (fun _ _ => rfl)) (fun fa cdv A outer s H vs Q E hr h => ?_)
  · obtain ⟨w, p, N, rfl, _⟩ := h
    rfl
  · obtain ⟨w, p, N, rfl, hw, q⟩ := h
    refine ⟨_, (pss_one (ps_ret (pe_tup pa_nil))), ?_⟩
    exact ⟨(by show 0 ≤ sizeLine; decide), fun t gt => q t _ ((Same.refl H).new gt) upd_same⟩
theorem ok_ahead_of (T : Tc K mg CP CG) : MCl P w K mg base 1 CP "ahead_of" ["self", "root"] (spEmpty CP) := by
  refine MCl.of T.m_ahead_of sc_Walk_ahead_of (fun vs H Q E h => ?_) (fun _ _ _ _ _ _ us hl => len2 us hl (fun _ _ => rfl)) (fun fa cdv A outer s H vs Q E hr h => ?_)
  · obtain ⟨w, p, N, rfl, _⟩ := h
    rfl
  · obtain ⟨w, p, N, rfl, hw, q⟩ := h
    refine ⟨_, (pss_one (ps_ret (pe_tup pa_nil))), ?_⟩
    exact ⟨(by show 0 ≤ sizeLine; decide), fun t gt => q t _ ((Same.refl H).new gt) upd_same⟩
noncomputable def spKey (CP : Addr) : Sp := fun vs H Q _ => ∃ (w : Addr) (p x : Str) (N : Nt) (k : Str × Nat), vs = [.ref w, .str p, .str x] ∧ WalkAt CP H w N ∧ N.km (p, x) = some k ∧ ∀ (t : Addr) (H' : Hp), Same H H' → H' t = some (.tup ((kN k).map kV)) → Q (.ref t) H'
theorem ok_key_of (T : Tc K mg CP CG) : MCl P w K mg base 1 CP "key_of" ["self", "part", "name"] (spKey CP) := by
  refine MCl.of T.m_key_of sc_PartsWalk_key_of (fun vs H Q E h => ?_) (fun _ _ _ _ _ _ us hl => len3 us hl (fun _ _ _ => rfl)) (fun fa cdv A outer s H vs Q E hr h => ?_)
  · obtain ⟨w, p, x, N, k, rfl, _⟩ := h
    rfl
  · obtain ⟨w, p, x, N, k, rfl, hw, hk, q⟩ := h
    have hu := hu_of hr
    obtain ⟨dx, rd, md, kvr, kvm, h1, h2, h3, h4, h5⟩ := hw.ex
    obtain ⟨t, e1, e2⟩ := h5 p x k hk
    refine ⟨_, (pss_one (ps_ret (pe_dget hu (pe_fld (pv 0) rfl) (pe_tup (pa_cons (pv 1) (pa_cons (pv 2) pa_nil))) (fun _ _ => rfl)))), ?_⟩
    refine ⟨_, rfl, w, CP, dx, _, _, rfl, h1, T.c_PartsWalk, T.nP_makers, lw_makers, _, rfl, _, rfl, (by show 2 ≤ sizeLine; decide), fun c gc => ?_⟩
    have s1 : Same H (upd H c (.tup ((kS (p, x)).map kV))) := (Same.refl H).new gc
    refine ⟨md, .ref t, rfl, ?_, ?_⟩
    · have hg := DGet.t (k := kS (p, x)) (s1 _ _ h3) (upd_same (H := H) (a := c) (o := .tup ((kS (p, x)).map kV)))
      rw [e1] at hg
      exact hg
    · exact q t _ s1 (s1 _ _ e2)
noncomputable def PlRow (H : Hp) (v : V) (x : Wx) : Prop := ∃ t r, v = .ref t ∧ H t = some (.tup [.str x.1, .int (x.2.1 : Int), .ref r]) ∧ RowAt H r x.2.2
theorem PlRow.mono {H H' : Hp} (s : Tups H H') {v : V} {x : Wx} (h : PlRow H v x) : PlRow H' v x := by
  obtain ⟨t, r, e, h1, h2⟩ := h
  exact ⟨t, r, e, s _ _ h1, h2.mono s⟩
theorem idx_len (p : Str) (rs : List Rw) : (idxRows p rs).length = rs.length := by unfold idxRows; rw [List.length_mapIdx]
theorem idx_at {p : Str} {rs : List Rw} {i : Nat} {rw : Rw} (h : rs[i]? = some rw) : (idxRows p rs)[i]? = some (p, i, rw) := by
  unfold idxRows
  rw [List.getElem?_mapIdx, h]
  rfl
noncomputable def spRowsOf (CP : Addr) : Sp := fun vs H Q _ => ∃ (w : Addr) (p : Str) (rs : List Rw) (N : Nt), vs = [.ref w, .str p] ∧ WalkAt CP H w N ∧ (p, rs) ∈ N.ps ∧ rs.length ≤ 900 ∧ ∀ (t : Addr) (vs : List V) (H' : Hp), Same H H' → H' t = some (.tup vs) → Paired (PlRow H') vs (idxRows p rs) → Q (.ref t) H'
theorem ok_rows_of (T : Tc K mg CP CG) : MCl P w K mg base 1 CP "rows_of" ["self", "part"] (spRowsOf CP) := by
  refine MCl.of T.m_rows_of sc_PartsWalk_rows_of (fun vs H Q E h => ?_) (fun _ _ _ _ _ _ us hl => len2 us hl (fun _ _ => rfl)) (fun fa cdv A outer s H vs Q E hr h => ?_)
  · obtain ⟨w, p, rs, N, rfl, _⟩ := h
    rfl
  · obtain ⟨w, p, rs, N, rfl, hw, hm, hl9, q⟩ := h
    have hu := hu_of hr
    obtain ⟨dx, rd, md, kvr, kvm, h1, h2, h3, h4, h5⟩ := hw.ex
    obtain ⟨u, ws, e1, e2, e3⟩ := h4 p rs hm
    have hwl : ws.length = rs.length := Paired.length e3
    refine ⟨_, (pss_one (ps_ret (pe_callTy call_tuple_of (by rfl) T.n_tuple boot_tuple (pa_cons (pe_comp (M := ["number", "row", "part"]) (ρ := [none, none, some 1]) (defScope s_PartsWalk_rows_of) ["self", "part"] ⟨rfl, by decide +kernel, by decide +kernel, by decide +kernel, rfl, by decide +kernel, by decide +kernel⟩ (pi_enumT (by rfl) T.n_enumerate (pa_cons (pe_dget hu (pe_fld (pv 0) rfl) (pv 1) (fun _ _ => rfl)) pa_nil)) (fun _ _ _ _ _ _ => (pg_tupK (K := K) (n := 2) rfl rfl (pgs_cons (pg_name (i := 0) (show (["number", "row", "part"] : List Str).Nodup by decide +kernel) rfl (Or.inl rfl)) (pgs_cons (pg_name (i := 1) (show (["number", "row", "part"] : List Str).Nodup by decide +kernel) rfl (Or.inl rfl)) pgs_nil)))) (fun _ _ _ _ _ _ => pts_nil) (fun _ _ _ _ _ _ => (pe_tup (pa_cons (pv 2) (pa_cons (pv 0) (pa_cons (pv 1) pa_nil)))))) pa_nil)))), ?_⟩
    refine ⟨_, rfl, w, CP, dx, _, _, rfl, h1, T.c_PartsWalk, T.nP_rows, lw_rows, _, rfl, rd, .ref u, rfl, ?_, u, rfl, ⟨_, SqT.of e2⟩, fun D hD => ?_⟩
    · have hg := DGet.k (k := Sum.inr p) h2
      rw [e1] at hg
      exact hg
    refine comp_by ws.length (fun i σ H3 => ∃ (v0 v1 : Option V) (us : List V), σ = [v0, v1, some (.str p)] ∧ Same H H3 ∧ H3 D = some (.lst us) ∧ Paired (PlRow H3) us ((idxRows p rs).take i)) ⟨_, _, [], rfl, (Same.refl H).new hD, upd_same, by rw [List.take_zero]; exact .nil⟩ ?_ ?_
    · rintro i σ H3 hi ⟨v0, v1, us, rfl, s3, hD3, hus⟩
      refine ⟨⟨ws, ws[i], SqT.of (s3 _ _ e2), by simp⟩, ?_⟩
      rintro v H4 ⟨pe, y, hv, hpe, rfl, rfl⟩
      have hv' := hv _ (SqT.of (s3 _ _ e2))
      obtain ⟨rw, hrw, r, er, hra⟩ := Paired.get? e3 hv'
      subst er
      have s4 : Same H3 (upd H3 pe (.tup [.int i, .ref r])) := (Same.refl H3).new hpe
      have hpe4 : upd H3 pe (.tup [.int i, .ref r]) pe = some (.tup [.int i, .ref r]) := upd_same
      generalize upd H3 pe (.tup [.int i, .ref r]) = H4 at s4 hpe4 ⊢
      have hul : us.length ≤ i := by rw [Paired.length hus, List.length_take]; omega
      refine ⟨pe, _, rfl, SqT.of hpe4, rfl, _, _, rfl, _, _, rfl, rfl, ?_⟩
      refine ntH ?_
      refine ⟨_, rfl, _, rfl, _, rfl, (by show 3 ≤ sizeLine; decide), fun t gt => ?_⟩
      have s5 : Same H3 (upd H4 t (.tup [.str p, .int i, .ref r])) := s4.new gt
      have hD5 := s5 _ _ hD3
      have ht5 : upd H4 t (.tup [.str p, .int i, .ref r]) t = some (.tup [.str p, .int i, .ref r]) := upd_same
      generalize upd H4 t (.tup [.str p, .int i, .ref r]) = H5 at s5 hD5 ht5 ⊢
      refine ⟨us, hD5, small1000 (by omega), _, _, _, rfl, (s3.trans s5).put hD, upd_same, ?_⟩
      rw [take_succ_get (idx_at hrw)]
      have T6 : Tups H5 (upd H5 D (.lst (us ++ [.ref t]))) := Tups.lst hD5
      exact Paired.snoc (Paired.mapP hus fun _ _ z => (z.mono s5.tups).mono T6) ⟨t, r, rfl, T6 _ _ ht5, (hra.mono (s3.trans s5).tups).mono T6⟩
    · rintro σ H3 ⟨v0, v1, us, rfl, s3, hD3, hus⟩
      refine ⟨⟨ws, SqT.of (s3 _ _ e2), rfl⟩, ?_⟩
      refine ⟨D, _, rfl, .inl ⟨SqL.of hD3, fun t gt => ?_⟩⟩
      refine q t us _ (s3.new gt) upd_same ?_
      rw [List.take_of_length_le (by rw [idx_len]; omega)] at hus
      exact Paired.mapP hus fun _ _ z => z.mono (Tups.new gt)
theorem ok_load (T : Tc K mg CP CG) : MCl P w K mg base 1 CG "load" ["self", "packs"] (fun vs H Q _ => ∃ (g t : Addr), vs = [.ref g, .ref t] ∧ H t = some (.tup []) ∧ Q .non H) := by
  refine MCl.of T.m_load sc_Going_load (fun vs H Q E h => ?_) (fun _ _ _ _ _ _ us hl => len2 us hl (fun _ _ => rfl)) (fun fa cdv A outer s H vs Q E hr h => ?_)
  · obtain ⟨g, t, rfl, _⟩ := h
    rfl
  · obtain ⟨g, t, rfl, ht, q⟩ := h
    have hu := hu_of hr
    refine ⟨_, (pss_one (ps_for PassesOwn.never rfl (pi_tup (pv 1)) (pg_name (i := 2) sc_Going_load.nd rfl (Or.inl rfl))
        (pss_one (ps_if (pt_cmp (pc_dnotin hu (pv 2) (pe_fld (pv 0) rfl)))
          (pss_cons (ps_dput hu (pe_fld (pv 0) rfl) (pv 2) pe_bl rfl)
          (pss_one (ps_expr (pe_bm PySem.F.plainAttrs_list PySem.F.slot_list_append PySem.F.type_list_append mt_append (pe_fld (pv 0) rfl) (pa_cons (pe_tup (pa_cons pe_str (pa_cons (pv 2) pa_nil))) pa_nil))))) pss_nil)))), ?_⟩
    refine ⟨_, rfl, t, rfl, ⟨_, SqT.of ht⟩, for_tup (K := K) (a := t) (xs := []) (fun i σ H2 => H2 = H) rfl (fun i σ H2 _ e => by rw [e]; exact SqT.of ht) (fun i x σ H2 e _ => by simp at e) (fun σ H2 e => by rw [e]; exact q)⟩
noncomputable def KpG (g : Addr) (H H' : Hp) : Prop := ∀ a o, H a = some o → a ≠ g → H' a = some o
theorem KpG.refl (g : Addr) (H : Hp) : KpG g H H := fun _ _ e _ => e
theorem KpG.self {g : Addr} {H H' : Hp} {o : HO} (k : KpG g H H') : KpG g H (upd H' g o) := fun a u e h => by rw [upd_ne h]; exact k a u e h
theorem KpG.new {g : Addr} {H H' : Hp} {b : Addr} {o : HO} (k : KpG g H H') (hb : H' b = none) : KpG g H (upd H' b o) := fun a u e h => upd_keep (k a u e h) hb
theorem putF_le (f : Str) (v : V) : ∀ (fs : List (Str × V)) (n : Nat), fs.length ≤ n → (putF f v fs).length ≤ n + 1
  | [], n, h => by show 1 ≤ n + 1; omega
  | (g, x) :: r, n, h => by
    have h' : r.length + 1 ≤ n := h
    show (if g = f then (g, v) :: r else (g, x) :: putF f v r).length ≤ n + 1
    split
    · show r.length + 1 ≤ n + 1; omega
    · have := putF_le f v r (n - 1) (by omega)
      show (putF f v r).length + 1 ≤ n + 1
      omega
theorem lt1000 {m n : Nat} (h : m ≤ n) (hn : n < 1000) : m < 1000 := Nat.lt_of_le_of_lt h hn
theorem go_fs (A : GA) : putF "fault" .non (putF "trace" (.ref A.tr) (putF "waiting" (.ref A.wt) (putF "given" (.ref A.gv) (putF "loaded" (.ref A.l) (putF "begun" (.ref A.b) (putF "taken" (.int 0) (putF "numbers" (.ref A.n) (putF "walk" (.ref A.w) [])))))))) = gF A 0 .non := by kernel_rfl
noncomputable def s0 : GS := ⟨0, [], [], [], [], none⟩
noncomputable def spGoInit (CP CG : Addr) : Sp := fun vs H Q _ => ∃ (g w n dx : Addr) (N : Nt) (ns : List Int), vs = [.ref g, .ref w, .ref n] ∧ H g = some (.ins CG dx []) ∧ WalkAt CP H w N ∧ w ≠ g ∧ H n = some (.tup (ns.map V.int)) ∧ ∀ (A : GA) (H' : Hp), KpG g H H' → (H A.b = none ∧ H A.l = none ∧ H A.gv = none ∧ H A.wt = none ∧ H A.tr = none) → GoAt CP CG H' g A N ns s0 → Q .non H'
theorem ok_GoInit (T : Tc K mg CP CG) : ICl P w K mg base 1 "Going" CG ["self", "walk", "numbers"] (spGoInit CP CG) := by
  refine ICl.of T.i_Going T.g_Going sc_Going___init__ (fun vs H Q E h => ?_) (fun _ _ _ _ _ _ us hl => len3 us hl (fun _ _ _ => rfl)) (fun fa cdv A outer s H vs Q E hr h => ?_)
  · obtain ⟨g, w, n, dx, N, ns, rfl, _⟩ := h
    rfl
  · obtain ⟨g, w, n, dx, N, ns, rfl, hg, hw, hwg, hn, q⟩ := h
    refine ⟨_, (pss_cons (ps_fld (pv 0) (pv 1) rfl)
      (pss_cons (ps_fld (pv 0) (pv 2) rfl)
      (pss_cons (ps_fld (pv 0) pe_int rfl)
      (pss_cons (ps_fld (pv 0) pe_dnewK rfl)
      (pss_cons (ps_fld (pv 0) pe_dnewK rfl)
      (pss_cons (ps_fld (pv 0) pe_dnewT rfl)
      (pss_cons (ps_fld (pv 0) (pe_lst pa_nil) rfl)
      (pss_cons (ps_fld (pv 0) (pe_lst pa_nil) rfl)
      (pss_one (ps_fld (pv 0) pe_non rfl)))))))))), ?_⟩
    refine ⟨_, rfl, _, rfl, g, CG, dx, _, rfl, hg, T.c_Going, T.nG_walk, (by show 0 < 1000; decide), ?_⟩
    refine ⟨_, rfl, _, rfl, g, CG, dx, _, rfl, upd_same, T.c_Going, T.nG_numbers, lt1000 (putF_le _ _ _ 0 (Nat.le_refl _)) (by decide), ?_⟩
    refine ⟨_, rfl, g, CG, dx, _, rfl, upd_same, T.c_Going, T.nG_taken, lt1000 (putF_le _ _ _ 1 (putF_le _ _ _ 0 (Nat.le_refl _))) (by decide), ?_⟩
    have k3 : KpG g H (upd (upd (upd H g (.ins CG dx (putF "walk" (.ref w) []))) g (.ins CG dx (putF "numbers" (.ref n) (putF "walk" (.ref w) [])))) g (.ins CG dx (putF "taken" (.int 0) (putF "numbers" (.ref n) (putF "walk" (.ref w) []))))) := ((KpG.refl g H).self.self).self
    have g3 : upd (upd (upd H g (.ins CG dx (putF "walk" (.ref w) []))) g (.ins CG dx (putF "numbers" (.ref n) (putF "walk" (.ref w) [])))) g (.ins CG dx (putF "taken" (.int 0) (putF "numbers" (.ref n) (putF "walk" (.ref w) [])))) g = some (.ins CG dx (putF "taken" (.int 0) (putF "numbers" (.ref n) (putF "walk" (.ref w) [])))) := upd_same
    generalize upd (upd (upd H g (.ins CG dx (putF "walk" (.ref w) []))) g (.ins CG dx (putF "numbers" (.ref n) (putF "walk" (.ref w) [])))) g (.ins CG dx (putF "taken" (.int 0) (putF "numbers" (.ref n) (putF "walk" (.ref w) [])))) = H3 at k3 g3 ⊢
    have l3 : (putF "taken" (.int 0) (putF "numbers" (.ref n) (putF "walk" (.ref w) []))).length ≤ 3 := putF_le _ _ _ 2 (putF_le _ _ _ 1 (putF_le _ _ _ 0 (Nat.le_refl _)))
    have fr : ∀ {H' : Hp} {b : Addr}, KpG g H H' → H' g ≠ none → H' b = none → H b = none := fun {H' b} k hg' hb => by
      cases e : H b with
      | none => rfl
      | some o =>
        by_cases z : b = g
        · subst z; exact absurd hb hg'
        · rw [k b o e z] at hb; cases hb
    intro b gb
    have nb : g ≠ b := ne_of_none g3 gb
    have fb := fr k3 (by rw [g3]; intro z; cases z) gb
    refine ⟨_, rfl, g, CG, dx, _, rfl, by rw [upd_ne nb]; exact g3, T.c_Going, T.nG_begun, lt1000 l3 (by decide), ?_⟩
    generalize hf3 : putF "taken" (.int 0) (putF "numbers" (.ref n) (putF "walk" (.ref w) [])) = f3 at l3 g3 ⊢
    have l4 := putF_le "begun" (.ref b) _ 3 l3
    have k4 := ((k3.new (o := .dK []) gb).self (o := .ins CG dx (putF "begun" (.ref b) f3)))
    have g4 := upd_same (H := upd H3 b (.dK [])) (a := g) (o := .ins CG dx (putF "begun" (.ref b) f3))
    have b4 : upd (upd H3 b (.dK [])) g (.ins CG dx (putF "begun" (.ref b) f3)) b = some (.dK []) := by rw [upd_ne nb.symm, upd_same]
    generalize upd (upd H3 b (.dK [])) g (.ins CG dx (putF "begun" (.ref b) f3)) = H4 at k4 g4 b4 ⊢
    generalize hf4 : putF "begun" (.ref b) f3 = f4 at l4 g4 ⊢
    intro l gl
    have nl : g ≠ l := ne_of_none g4 gl
    have fl := fr k4 (by rw [g4]; intro z; cases z) gl
    refine ⟨_, rfl, g, CG, dx, _, rfl, by rw [upd_ne nl]; exact g4, T.c_Going, T.nG_loaded, lt1000 l4 (by decide), ?_⟩
    have l5 := putF_le "loaded" (.ref l) _ 4 l4
    have nbl : b ≠ l := ne_of_none b4 gl
    have k5 := ((k4.new (o := .dK []) gl).self (o := .ins CG dx (putF "loaded" (.ref l) f4)))
    have g5 := upd_same (H := upd H4 l (.dK [])) (a := g) (o := .ins CG dx (putF "loaded" (.ref l) f4))
    have b5 : upd (upd H4 l (.dK [])) g (.ins CG dx (putF "loaded" (.ref l) f4)) b = some (.dK []) := by rw [upd_ne nb.symm, upd_ne nbl]; exact b4
    have c5 : upd (upd H4 l (.dK [])) g (.ins CG dx (putF "loaded" (.ref l) f4)) l = some (.dK []) := by rw [upd_ne nl.symm, upd_same]
    generalize upd (upd H4 l (.dK [])) g (.ins CG dx (putF "loaded" (.ref l) f4)) = H5 at k5 g5 b5 c5 ⊢
    generalize hf5 : putF "loaded" (.ref l) f4 = f5 at l5 g5 ⊢
    intro v gv
    have nv : g ≠ v := ne_of_none g5 gv
    have fv := fr k5 (by rw [g5]; intro z; cases z) gv
    refine ⟨_, rfl, g, CG, dx, _, rfl, by rw [upd_ne nv]; exact g5, T.c_Going, T.nG_given, lt1000 l5 (by decide), ?_⟩
    have l6 := putF_le "given" (.ref v) _ 5 l5
    have nbv : b ≠ v := ne_of_none b5 gv
    have nlv : l ≠ v := ne_of_none c5 gv
    have k6 := ((k5.new (o := .dT []) gv).self (o := .ins CG dx (putF "given" (.ref v) f5)))
    have g6 := upd_same (H := upd H5 v (.dT [])) (a := g) (o := .ins CG dx (putF "given" (.ref v) f5))
    have b6 : upd (upd H5 v (.dT [])) g (.ins CG dx (putF "given" (.ref v) f5)) b = some (.dK []) := by rw [upd_ne nb.symm, upd_ne nbv]; exact b5
    have c6 : upd (upd H5 v (.dT [])) g (.ins CG dx (putF "given" (.ref v) f5)) l = some (.dK []) := by rw [upd_ne nl.symm, upd_ne nlv]; exact c5
    have v6 : upd (upd H5 v (.dT [])) g (.ins CG dx (putF "given" (.ref v) f5)) v = some (.dT []) := by rw [upd_ne nv.symm, upd_same]
    generalize upd (upd H5 v (.dT [])) g (.ins CG dx (putF "given" (.ref v) f5)) = H6 at k6 g6 b6 c6 v6 ⊢
    generalize hf6 : putF "given" (.ref v) f5 = f6 at l6 g6 ⊢
    refine ⟨(by show 0 ≤ sizeLine; decide), fun wt gw => ?_⟩
    have nw : g ≠ wt := ne_of_none g6 gw
    have fw := fr k6 (by rw [g6]; intro z; cases z) gw
    refine ⟨_, rfl, g, CG, dx, _, rfl, by rw [upd_ne nw]; exact g6, T.c_Going, T.nG_waiting, lt1000 l6 (by decide), ?_⟩
    have l7 := putF_le "waiting" (.ref wt) _ 6 l6
    have nbw : b ≠ wt := ne_of_none b6 gw
    have nlw : l ≠ wt := ne_of_none c6 gw
    have nvw : v ≠ wt := ne_of_none v6 gw
    have k7 := ((k6.new (o := .lst []) gw).self (o := .ins CG dx (putF "waiting" (.ref wt) f6)))
    have g7 := upd_same (H := upd H6 wt (.lst [])) (a := g) (o := .ins CG dx (putF "waiting" (.ref wt) f6))
    have b7 : upd (upd H6 wt (.lst [])) g (.ins CG dx (putF "waiting" (.ref wt) f6)) b = some (.dK []) := by rw [upd_ne nb.symm, upd_ne nbw]; exact b6
    have c7 : upd (upd H6 wt (.lst [])) g (.ins CG dx (putF "waiting" (.ref wt) f6)) l = some (.dK []) := by rw [upd_ne nl.symm, upd_ne nlw]; exact c6
    have v7 : upd (upd H6 wt (.lst [])) g (.ins CG dx (putF "waiting" (.ref wt) f6)) v = some (.dT []) := by rw [upd_ne nv.symm, upd_ne nvw]; exact v6
    have w7 : upd (upd H6 wt (.lst [])) g (.ins CG dx (putF "waiting" (.ref wt) f6)) wt = some (.lst []) := by rw [upd_ne nw.symm, upd_same]
    generalize upd (upd H6 wt (.lst [])) g (.ins CG dx (putF "waiting" (.ref wt) f6)) = H7 at k7 g7 b7 c7 v7 w7 ⊢
    generalize hf7 : putF "waiting" (.ref wt) f6 = f7 at l7 g7 ⊢
    refine ⟨(by show 0 ≤ sizeLine; decide), fun tr gt => ?_⟩
    have nt' : g ≠ tr := ne_of_none g7 gt
    have ft := fr k7 (by rw [g7]; intro z; cases z) gt
    refine ⟨_, rfl, g, CG, dx, _, rfl, by rw [upd_ne nt']; exact g7, T.c_Going, T.nG_trace, lt1000 l7 (by decide), ?_⟩
    have l8 := putF_le "trace" (.ref tr) _ 7 l7
    refine ⟨_, rfl, g, CG, dx, _, rfl, upd_same, T.c_Going, T.nG_fault, lt1000 l8 (by decide), ?_⟩
    have nbt : b ≠ tr := ne_of_none b7 gt
    have nlt : l ≠ tr := ne_of_none c7 gt
    have nvt : v ≠ tr := ne_of_none v7 gt
    have nwt : wt ≠ tr := ne_of_none w7 gt
    have hfin : putF "fault" .non (putF "trace" (.ref tr) f7) = gF ⟨w, n, b, l, v, wt, tr⟩ 0 .non := by
      rw [← hf7, ← hf6, ← hf5, ← hf4, ← hf3]
      exact go_fs ⟨w, n, b, l, v, wt, tr⟩
    have k9 := ((k7.new (o := .lst []) gt).self (o := .ins CG dx (putF "trace" (.ref tr) f7))).self (o := .ins CG dx (putF "fault" .non (putF "trace" (.ref tr) f7)))
    have g9 := upd_same (H := upd (upd H7 tr (.lst [])) g (.ins CG dx (putF "trace" (.ref tr) f7))) (a := g) (o := .ins CG dx (putF "fault" .non (putF "trace" (.ref tr) f7)))
    have at9 : ∀ {a : Addr} {o : HO}, a ≠ g → a ≠ tr → H7 a = some o → upd (upd (upd H7 tr (.lst [])) g (.ins CG dx (putF "trace" (.ref tr) f7))) g (.ins CG dx (putF "fault" .non (putF "trace" (.ref tr) f7))) a = some o := fun {a o} h1 h2 e => by rw [upd_ne h1, upd_ne h1, upd_ne h2]; exact e
    have b9 := at9 nb.symm nbt b7
    have c9 := at9 nl.symm nlt c7
    have v9 := at9 nv.symm nvt v7
    have w9 := at9 nw.symm nwt w7
    have t9 : upd (upd (upd H7 tr (.lst [])) g (.ins CG dx (putF "trace" (.ref tr) f7))) g (.ins CG dx (putF "fault" .non (putF "trace" (.ref tr) f7))) tr = some (.lst []) := by rw [upd_ne nt'.symm, upd_ne nt'.symm, upd_same]
    generalize upd (upd (upd H7 tr (.lst [])) g (.ins CG dx (putF "trace" (.ref tr) f7))) g (.ins CG dx (putF "fault" .non (putF "trace" (.ref tr) f7))) = H9 at k9 g9 b9 c9 v9 w9 t9 ⊢
    rw [hfin] at g9
    have T9 : Tups H H9 := fun a xs e => k9 a _ e (ne_of e hg (by intro z; cases z))
    obtain ⟨dy, rd, md, kvr, kvm, h1, h2, h3, h4, h5⟩ := hw.ex
    refine q ⟨w, n, b, l, v, wt, tr⟩ H9 k9 ⟨fb, fl, fv, fw, ft⟩ ⟨⟨dx, .non, g9, rfl⟩, T9 _ _ hn, b9, c9, v9, ⟨[], w9, .nil⟩, ⟨[], t9, .nil⟩, ?_, nwt, nbl, fun dx' rd' md' e => ?_, fun k x e => ?_, Nat.zero_le _⟩
    · refine ⟨dy, rd, md, kvr, kvm, k9 _ _ h1 hwg, k9 _ _ h2 (ne_of h2 hg (by intro z; cases z)), k9 _ _ h3 (ne_of h3 hg (by intro z; cases z)), fun n' rs hm => ?_, fun p x k hk => ?_⟩
      · obtain ⟨u, ws, e1, e2, e3⟩ := h4 n' rs hm
        exact ⟨u, ws, e1, T9 _ _ e2, e3.mono T9⟩
      · obtain ⟨t, e1, e2⟩ := h5 p x k hk
        exact ⟨t, e1, T9 _ _ e2⟩
    · have e' : H9 w = some (.ins CP dx' (wF rd' md')) := e
      rw [k9 _ _ h1 hwg] at e'
      have e3 := Option.some.inj e'
      injection e3 with _ _ e4
      have e5 : rd = rd' := by injection e4 with e6 _; injection e6 with _ e7; exact V.ref.inj e7
      have e6 : md = md' := by injection e4 with _ e7; injection e7 with e8 _; injection e8 with _ e9; exact V.ref.inj e9
      subst e5
      subst e6
      refine ⟨fun z => ?_, fun z => ?_, fun z => ?_⟩
      · have z' : rd = b := z
        rw [z', fb] at h2; cases h2
      · have z' : rd = l := z
        rw [z', fl] at h2; cases h2
      · have z' : md = v := z
        rw [z', fv] at h3; cases h3
    · simp [valV, s0] at e
noncomputable def spThing (CP CG : Addr) : Sp := fun vs H Q _ => ∃ (g : Addr) (A : GA) (N : Nt) (ns : List Int) (S : GS) (p : Str) (th : Th), vs = [.ref g, .str p, thV th] ∧ GoAt CP CG H g A N ns S ∧ (∀ x, th = .nam x → (lk N S.gv p x).isSome = true) ∧ ∀ H', Same H H' → Q (.int (tv N S.gv p th)) H'
theorem lk_some {N : Nt} {S : GS} {p x : Str} (h : (lk N S.gv p x).isSome = true) (gi : ∀ k v, valV S.gv k = some v → ∃ i : Int, v = .int i) : ∃ k i, N.km (p, x) = some k ∧ valV S.gv (kN k) = some (.int i) ∧ lk N S.gv p x = some (.int i) := by
  unfold lk at h ⊢
  cases e : N.km (p, x) with
  | none => rw [e] at h; cases h
  | some k =>
    rw [e] at h
    have h' : (valV S.gv (kN k)).isSome = true := h
    cases e2 : valV S.gv (kN k) with
    | none => rw [e2] at h'; cases h'
    | some v =>
      obtain ⟨i, rfl⟩ := gi _ _ e2
      exact ⟨k, i, rfl, e2, by show valV S.gv (kN k) = _; exact e2⟩
theorem ok_thing_value (T : Tc K mg CP CG) : MCl P w K mg base 2 CG "thing_value" ["self", "part", "thing"] (spThing CP CG) := by
  have C_key_of := ok_key_of (P := P) (w := w) (base := base) T
  refine MCl.of T.m_thing_value sc_Going_thing_value (fun vs H Q E h => ?_) (fun _ _ _ _ _ _ us hl => len3 us hl (fun _ _ _ => rfl)) (fun fa cdv A outer s H vs Q E hr h => ?_)
  · obtain ⟨g, A, N, ns, S, p, th, rfl, _⟩ := h
    rfl
  · obtain ⟨g, A, N, ns, S, p, th, rfl, hG, hk, q⟩ := h
    have hu := hu_of hr
    obtain ⟨dx, v, hg, _⟩ := hG.ob
    obtain ⟨dw, rd, md, kvr, kvm, hw, _⟩ := hG.wk.ex
    refine ⟨_, (pss_cons (ps_if (pt_val (pe_callB call_isinst (by rfl) T.n_isinstance PyProof.Rows.boot_isinstance (pa_cons (pv 2) (pa_cons (pe_bltn (v := .ty "str") (by rfl) T.n_str boot_str rfl) pa_nil))))
        (pss_one (ps_ret (pe_dget hu (pe_fld (pv 0) rfl) (pe_m C_key_of T.c_PartsWalk hr (pe_fld (pv 0) rfl) (pa_cons (pv 1) (pa_cons (pv 2) pa_nil))) (fun _ _ => rfl)))) pss_nil)
      (pss_one (ps_ret (pv 2)))), ?_⟩
    cases th with
    | num n =>
      refine ⟨_, rfl, _, _, _, _, rfl, .int n, kit_int_str _, _, rfl, iteF ?_⟩
      exact ⟨_, rfl, q H (Same.refl H)⟩
    | nam x =>
      obtain ⟨k, i, e1, e2, e3⟩ := lk_some (hk x rfl) hG.gi
      refine ⟨_, rfl, _, _, _, _, rfl, .str x, kit_same _ _, _, rfl, iteT ?_⟩
      refine ⟨_, rfl, g, CG, dx, _, _, rfl, hg, T.c_Going, T.nG_given, lg_given, ?_⟩
      refine ⟨_, rfl, g, CG, dx, _, _, rfl, hg, T.c_Going, T.nG_walk, lg_walk, A.w, dw, _, rfl, hw, lw_key_of, _, rfl, _, rfl, A.w, p, x, N, k, rfl, hG.wk, e1, fun t H1 s1 ht => ?_⟩
      refine ⟨A.gv, .int i, rfl, ?_, ?_⟩
      · have hgt := DGet.t (k := kN k) (s1 _ _ hG.gv) ht
        rw [e2] at hgt
        exact hgt
      · have := q H1 s1
        have e4 : tv N S.gv p (.nam x) = i := by show ivl (lk N S.gv p x) = i; rw [e3]; rfl
        rw [e4] at this
        exact this
noncomputable def spValue (CP CG : Addr) : Sp := fun vs H Q _ => ∃ (g t : Addr) (A : GA) (N : Nt) (ns : List Int) (S : GS) (p : Str) (ts : List (Int × Th)), vs = [.ref g, .str p, .ref t] ∧ GoAt CP CG H g A N ns S ∧ TermsAt H t ts ∧ (∀ d ∈ ts, d.1 = 1 ∨ d.1 = -1) ∧ (∀ d ∈ ts, ∀ x, d.2 = .nam x → (lk N S.gv p x).isSome = true) ∧ ∀ H', Same H H' → Q (.int (sumV N S.gv p ts)) H'
theorem ok_value_of (T : Tc K mg CP CG) : MCl P w K mg base 3 CG "value_of" ["self", "part", "terms"] (spValue CP CG) := by
  have C_thing_value := ok_thing_value (P := P) (w := w) (base := base) T
  refine MCl.of T.m_value_of sc_Going_value_of (fun vs H Q E h => ?_) (fun _ _ _ _ _ _ us hl => len3 us hl (fun _ _ _ => rfl)) (fun fa cdv A outer s H vs Q E hr h => ?_)
  · obtain ⟨g, t, A, N, ns, S, p, ts, rfl, _⟩ := h
    rfl
  · obtain ⟨g, t, A, N, ns, S, p, ts, rfl, hG, ⟨⟨vs, ht, hts⟩, lo, hi⟩, hsg, hk, q⟩ := h
    have hvl : vs.length = ts.length := Paired.length hts
    refine ⟨_, (pss_cons (ps_set (i := 3) sc_Going_value_of.nd rfl (Or.inl rfl) pe_int)
      (pss_cons (ps_for PassesOwn.never rfl (pi_tup (pv 2)) (pg_tup rfl (pgs_cons (pg_name (i := 4) sc_Going_value_of.nd rfl (Or.inl rfl)) (pgs_cons (pg_name (i := 5) sc_Going_value_of.nd rfl (Or.inl rfl)) pgs_nil)))
        (pss_one (ps_aug (i := 3) sc_Going_value_of.nd rfl (Or.inl rfl) (pe_op op_mul (pv 4) (pe_m C_thing_value T.c_Going hr (pv 0) (pa_cons (pv 1) (pa_cons (pv 5) pa_nil)))) ip_add)))
      (pss_one (ps_ret (pv 3))))), ?_⟩
    refine ⟨_, rfl, t, rfl, ⟨_, SqT.of ht⟩, for_tup (K := K) (a := t) (xs := vs) (fun i σ H2 => ∃ v4 v5 : Option V, σ = [some (.ref g), some (.str p), some (.ref t), some (.int (sumV N S.gv p (ts.take i))), v4, v5] ∧ Same H H2)
      ⟨none, none, rfl, Same.refl H⟩ (fun i σ H2 _ hpat => by obtain ⟨_, _, _, s2⟩ := hpat; exact SqT.of (s2 _ _ ht)) ?_ ?_⟩
    · rintro i y σ H2 hy ⟨v4, v5, rfl, s2⟩
      obtain ⟨tm, htm, tp, ep, htp, hok⟩ := Paired.get? hts hy
      subst ep
      have hmem := List.mem_of_getElem? htm
      have h1 := hsg tm hmem
      refine ⟨tp, _, rfl, SqT.of (s2 _ _ htp), rfl, _, _, rfl, _, _, rfl, rfl, ?_⟩
      obtain ⟨dx, v, hg, _⟩ := (hG.same s2).ob
      refine ⟨_, rfl, _, rfl, _, rfl, g, dx, _, rfl, hg, lg_thing_value, _, rfl, _, rfl, g, A, N, ns, S, p, tm.2, rfl, hG.same s2, fun x e => hk tm hmem x e, fun H3 s3 => ?_⟩
      refine ⟨_, _, rfl, rfl, .inl ⟨by omega, by omega⟩, ?_⟩
      refine ⟨_, _, rfl, rfl, some (.int tm.1), some (thV tm.2), ?_, s2.trans s3⟩
      rw [take_succ_get htm, sumV_snoc]
      rfl
    · rintro σ H2 ⟨v4, v5, rfl, s2⟩
      rw [hvl, List.take_length]
      exact ⟨_, rfl, q H2 s2⟩
noncomputable def spGive (CP CG : Addr) : Sp := fun vs H Q _ => ∃ (g : Addr) (A : GA) (N : Nt) (ns : List Int) (S : GS) (p x : Str) (i : Int) (k : Str × Nat), vs = [.ref g, .str p, .str x, .int i] ∧ GoAt CP CG H g A N ns S ∧ N.km (p, x) = some k ∧ S.gv.length ≤ 1000 ∧ ∀ H', Fr g A H H' → GoAt CP CG H' g A N ns { S with gv := putK S.gv (kN k) (.int i) } → Q .non H'
theorem ok_give (T : Tc K mg CP CG) : MCl P w K mg base 2 CG "give" ["self", "part", "name", "value"] (spGive CP CG) := by
  have C_key_of := ok_key_of (P := P) (w := w) (base := base) T
  refine MCl.of T.m_give sc_Going_give (fun vs H Q E h => ?_) (fun _ _ _ _ _ _ us hl => len4 us hl (fun _ _ _ _ => rfl)) (fun fa cdv A outer s H vs Q E hr h => ?_)
  · obtain ⟨g, A, N, ns, S, p, x, i, k, rfl, _⟩ := h
    rfl
  · obtain ⟨g, A, N, ns, S, p, x, i, k, rfl, hG, e1, hl, q⟩ := h
    have hu := hu_of hr
    obtain ⟨dx, v, hg, _⟩ := hG.ob
    obtain ⟨dw, rd, md, kvr, kvm, hw, _⟩ := hG.wk.ex
    refine ⟨_, (pss_one (ps_dput hu (pe_fld (pv 0) rfl) (pe_m C_key_of T.c_PartsWalk hr (pe_fld (pv 0) rfl) (pa_cons (pv 1) (pa_cons (pv 2) pa_nil))) (pv 3) rfl)), ?_⟩
    refine ⟨_, rfl, _, rfl, g, CG, dx, _, _, rfl, hg, T.c_Going, T.nG_given, lg_given, ?_⟩
    refine ⟨_, rfl, g, CG, dx, _, _, rfl, hg, T.c_Going, T.nG_walk, lg_walk, A.w, dw, _, rfl, hw, lw_key_of, _, rfl, _, rfl, A.w, p, x, N, k, rfl, hG.wk, e1, fun t H1 s1 ht => ?_⟩
    have hG1 := hG.same s1
    refine ⟨A.gv, _, rfl, DPut.t (k := kN k) hG1.gv ht (small1000 hl), ?_⟩
    obtain ⟨f, hG2⟩ := hG1.putGiven k i
    exact q _ ((s1.fr g A).trans f) hG2
noncomputable def spTold (CP CG : Addr) : Sp := fun vs H Q _ => ∃ (g : Addr) (A : GA) (N : Nt) (ns : List Int) (S : GS), vs = [.ref g] ∧ GoAt CP CG H g A N ns S ∧ ∀ H', Fr g A H H' → GoAt CP CG H' g A N ns { S with tk := if S.tk = ns.length then S.tk else S.tk + 1 } → Q (.int (ns.getD S.tk 0)) H'
theorem ok_next_told (T : Tc K mg CP CG) : MCl P w K mg base 1 CG "next_told" ["self"] (spTold CP CG) := by
  refine MCl.of T.m_next_told sc_Going_next_told (fun vs H Q E h => ?_) (fun _ _ _ _ _ _ us hl => len1 us hl (fun _ => rfl)) (fun fa cdv A outer s H vs Q E hr h => ?_)
  · obtain ⟨g, A, N, ns, S, rfl, _⟩ := h
    rfl
  · obtain ⟨g, A, N, ns, S, rfl, hG, q⟩ := h
    obtain ⟨dx, v, hg, hft⟩ := hG.ob
    have hn := hG.nm
    have htk := hG.tkl
    refine ⟨_, (pss_cons (ps_if (pt_cmpR op_eq (pe_fld (pv 0) rfl) (pe_callB call_len_seq (by rfl) T.n_len PySem.boot_len (pa_cons (pe_fld (pv 0) rfl) pa_nil)) (nomark _))
        (pss_one (ps_ret pe_int)) pss_nil)
      (pss_cons (ps_fldaug (pv 0) pe_int in_add)
      (pss_one (ps_ret (pe_ix ix_tup (pe_fld (pv 0) rfl) (pe_op op_sub (pe_fld (pv 0) rfl) pe_int) (fun _ _ => rfl)))))), ?_⟩
    refine ⟨_, rfl, g, CG, dx, _, _, rfl, hg, T.c_Going, T.nG_taken, lg_taken, _, rfl, g, CG, dx, _, _, rfl, hg, T.c_Going, T.nG_numbers, lg_numbers, A.n, _, rfl, .inr (SqT.of hn), rfl, _, rfl, ite2I (fun c1 => ?_) (fun c1 => ?_)⟩
    · have e : S.tk = ns.length := by rw [List.length_map] at c1; omega
      have h0 : ns.getD S.tk 0 = 0 := by rw [e]; simp
      have := q H (Fr.refl g A H) (by rw [if_pos e]; exact hG)
      rw [h0] at this
      exact this
    · have e : ¬ S.tk = ns.length := by rw [List.length_map] at c1; omega
      have hlt : S.tk < ns.length := by omega
      refine ⟨_, rfl, g, CG, dx, _, _, rfl, hg, T.c_Going, T.nG_taken, lg_taken, _, _, rfl, rfl, dx, _, hg, gF_len, ?_⟩
      rw [put_taken]
      have ecast : (S.tk : Int) + 1 = ((S.tk + 1 : Nat) : Int) := by omega
      rw [ecast]
      obtain ⟨f, hG2⟩ := hG.setSelf (dx := dx) (tk := S.tk + 1) hft (by omega)
      obtain ⟨dx2, v2, hg2, _⟩ := hG2.ob
      have hg3 : upd H g (.ins CG dx (gF A ((S.tk + 1 : Nat) : Int) v)) g = some (.ins CG dx (gF A ((S.tk + 1 : Nat) : Int) v)) := upd_same
      refine ⟨_, rfl, g, CG, dx, _, _, rfl, hg3, T.c_Going, T.nG_numbers, lg_numbers, _, rfl, g, CG, dx, _, _, rfl, hg3, T.c_Going, T.nG_taken, lg_taken, _, _, rfl, rfl, A.n, _, _, _, rfl, rfl, SqT.of hG2.nm, atI_map V.int ns 0 (by omega) (by omega), ?_⟩
      have et : (((S.tk + 1 : Nat) : Int) - 1).toNat = S.tk := by omega
      rw [et]
      refine q _ f ?_
      rw [if_neg e]
      exact hG2
set_option genInjectivity false in
structure RowK (N : Nt) (p : Str) (rw : Rw) : Prop where
  rd : ∀ d ∈ rdR rw, (N.km (p, d.2)).isSome = true
  ow : ∀ o, ownR rw = some o → (N.km (p, o)).isSome = true
  sg : ∀ d ∈ sgR rw, d.1 = 1 ∨ d.1 = -1
  nm : ∀ d ∈ sgR rw, ∀ x, d.2 = .nam x → ∃ e ∈ rdR rw, e.2 = x
  lt : LiteR rw
theorem mk_get {N : Nt} {p x : Str} (h : (N.km (p, x)).isSome = true) : ∃ k, N.km (p, x) = some k := by
  cases e : N.km (p, x) with
  | none => rw [e] at h; cases h
  | some k => exact ⟨k, rfl⟩
noncomputable def spOff (CP CG : Addr) : Sp := fun vs H Q _ => ∃ (g r : Addr) (p : Str) (rw : Rw), vs = [.ref g, .str p, .ref r] ∧ RowAt H r rw ∧ LiteR rw ∧ ∀ H', Same H H' → Q (.bl false) H'
theorem off_key {N : Nt} {gv : List (List Key × V)} {p x : Str} {k : Str × Nat} (e : N.km (p, x) = some k) : lk N gv p x = valV gv (kN k) := by unfold lk; rw [e]; rfl
theorem ok_is_off (T : Tc K mg CP CG) : MCl P w K mg base 2 CG "is_off" ["self", "part", "row"] (spOff CP CG) := by
  refine MCl.of T.m_is_off sc_Going_is_off (fun vs H Q E h => ?_) (fun _ _ _ _ _ _ us hl => len3 us hl (fun _ _ _ => rfl)) (fun fa cdv A outer s H vs Q E hr h => ?_)
  · obtain ⟨g, r, p, rw, rfl, _⟩ := h
    rfl
  · obtain ⟨g, r, p, rw, rfl, hra, hK, q⟩ := h
    obtain ⟨x1, rest, hrt⟩ := hra.kind
    have z0 : atI (V.str (kindS rw) :: x1 :: rest) 0 = some (.str (kindS rw)) := atI_nat (j := 0) rfl
    refine ⟨_, (pss_cons (ps_if (PW.pt (pw_or (pt_cmpR op_notIn_seq (pe_ix ix_tup (pv 2) pe_int (fun _ _ => rfl)) (pe_tup (pa_cons pe_str (pa_cons pe_str pa_nil))) (by with_unfolding_all rfl)) (pw_or1 (pt_cmp (pc_isN (pe_ix ix_tup (pv 2) pe_int (fun _ _ => rfl)))))))
        (pss_one (ps_ret pe_bl)) pss_nil)
      pss_never), ?_⟩
    refine ⟨_, rfl, r, _, _, _, rfl, rfl, SqT.of hrt, z0, (by show 2 ≤ sizeLine; decide), fun c gc => ?_⟩
    have s1 : Same H (upd H c (.tup [.str "say", .str "ask"])) := (Same.refl H).new gc
    have hc1 : upd H c (.tup [.str "say", .str "ask"]) c = some (.tup [.str "say", .str "ask"]) := upd_same
    generalize upd H c (.tup [.str "say", .str "ask"]) = H1 at s1 hc1 ⊢
    refine ⟨c, _, rfl, .inr (SqT.of hc1), rfl, rfl, _, rfl, ?_⟩
    rw [if_pos rfl, inV2]
    cases hK with
    | say =>
      obtain ⟨t, hrt', hts⟩ := hra
      rw [decide_eq_true (.inl rfl)]
      refine iteF ?_
      refine ⟨_, rfl, r, _, _, _, rfl, rfl, SqT.of (s1 _ _ hrt'), rfl, _, rfl, ?_⟩
      exact iteDP rfl (q H1 s1)
    | set =>
      rw [decide_eq_false (by simp only [kindS]; decide +kernel)]
      refine iteT ?_
      show if true = true then _ else _
      refine iteT ?_
      exact q H1 s1
    | take =>
      rw [decide_eq_false (by simp only [kindS]; decide +kernel)]
      refine iteT ?_
      show if true = true then _ else _
      refine iteT ?_
      exact q H1 s1
theorem row_rd {H : Hp} {r : Addr} {rw : Rw} (h : RowAt H r rw) (hl : LiteR rw) : RdAt H r (rdR rw) := by
  cases hl with
  | set => obtain ⟨t, h1, h2⟩ := h; exact .inl ⟨_, t, _, h1, h2, rfl⟩
  | say => obtain ⟨t, h1, h2⟩ := h; exact .inr (.inl ⟨t, _, h1, h2, rfl⟩)
  | take => exact .inr (.inr ⟨_, h, rfl⟩)
theorem find_at {α : Type} {f : α → Bool} : ∀ {l : List α} {i : Nat} {x : α}, (∀ y ∈ l.take i, f y = false) → l[i]? = some x → f x = true → l.find? f = some x
  | [], _, _, _, h, _ => by simp at h
  | a :: l, 0, x, _, h, hx => by
    have e : a = x := by simpa using h
    subst e
    rw [List.find?_cons, hx]
  | a :: l, i + 1, x, h0, h, hx => by
    have ha : f a = false := h0 a (by rw [List.take_succ_cons]; exact List.mem_cons_self)
    rw [List.find?_cons, ha]
    exact find_at (i := i) (fun y hy => h0 y (by rw [List.take_succ_cons]; exact List.mem_cons_of_mem _ hy)) (by simpa using h) hx
noncomputable def optI : Option Int → V
  | some i => .int i
  | none => .non
noncomputable def spEarly (CP CG : Addr) : Sp := fun vs H Q _ => ∃ (g r : Addr) (A : GA) (N : Nt) (ns : List Int) (S : GS) (p : Str) (rw : Rw), vs = [.ref g, .str p, .ref r] ∧ GoAt CP CG H g A N ns S ∧ RowAt H r rw ∧ RowK N p rw ∧ ∀ H', Same H H' → Q (optI (earlyR N S.gv p rw)) H'
theorem ok_early_word (T : Tc K mg CP CG) : MCl P w K mg base 5 CG "early_word" ["self", "part", "row"] (spEarly CP CG) := by
  have C_key_of := ok_key_of (P := P) (w := w) (base := base) T
  have C_read_names := ok_read_names (P := P) (w := w) (base := base) T.toTxt
  refine MCl.of T.m_early_word sc_Going_early_word (fun vs H Q E h => ?_) (fun _ _ _ _ _ _ us hl => len3 us hl (fun _ _ _ => rfl)) (fun fa cdv A outer s H vs Q E hr h => ?_)
  · obtain ⟨g, r, A, N, ns, S, p, rw, rfl, _⟩ := h
    rfl
  · obtain ⟨g, r, A, N, ns, S, p, rw, rfl, hG, hra, hK, q⟩ := h
    have hu := hu_of hr
    refine ⟨_, (pss_cons (ps_for PassesOwn.never rfl (pi_tup (pe_fn C_read_names hr (by rfl) (pa_cons (pv 2) pa_nil))) (pg_tup rfl (pgs_cons (pg_name (i := 3) sc_Going_early_word.nd rfl (Or.inl rfl)) (pgs_cons (pg_name (i := 4) sc_Going_early_word.nd rfl (Or.inl rfl)) pgs_nil)))
        (pss_one (ps_if (pt_cmp (pc_dnotin hu (pe_m C_key_of T.c_PartsWalk hr (pe_fld (pv 0) rfl) (pa_cons (pv 1) (pa_cons (pv 4) pa_nil))) (pe_fld (pv 0) rfl)))
          (pss_one (ps_ret (pv 3))) pss_nil)))
      (pss_one (ps_ret pe_non))), ?_⟩
    refine ⟨_, rfl, r, rdR rw, rfl, row_rd hra hK.lt, fun t ws H1 s1 ht hnm => ?_⟩
    have hwl : ws.length = (rdR rw).length := Paired.length hnm
    refine ⟨t, rfl, ⟨_, SqT.of ht⟩, for_tup (K := K) (a := t) (xs := ws) (fun i σ H2 => ∃ v3 v4 : Option V, σ = [some (.ref g), some (.str p), some (.ref r), v3, v4] ∧ Same H1 H2 ∧ ∀ d ∈ (rdR rw).take i, (!(lk N S.gv p d.2).isSome) = false)
      ⟨none, none, rfl, Same.refl H1, fun d hd => by simp at hd⟩ (fun i σ H2 _ hpat => by obtain ⟨_, _, _, s2, _⟩ := hpat; exact SqT.of (s2 _ _ ht)) ?_ ?_⟩
    · rintro i y σ H2 hy ⟨v3, v4, rfl, s2, hall⟩
      obtain ⟨d, hd, tp, ep, htp⟩ := Paired.get? hnm hy
      subst ep
      have hdm := List.mem_of_getElem? hd
      obtain ⟨k, ek⟩ := mk_get (hK.rd d hdm)
      have hG2 := hG.same (s1.trans s2)
      obtain ⟨dx, v, hg, _⟩ := hG2.ob
      obtain ⟨dw, rd, md, kvr, kvm, hw, _⟩ := hG2.wk.ex
      refine ⟨tp, _, rfl, SqT.of (s2 _ _ htp), rfl, _, _, rfl, _, _, rfl, rfl, ?_⟩
      refine ⟨_, rfl, g, CG, dx, _, _, rfl, hg, T.c_Going, T.nG_walk, lg_walk, A.w, dw, _, rfl, hw, lw_key_of, _, rfl, _, rfl, A.w, p, d.2, N, k, rfl, hG2.wk, ek, fun tk H3 s3 ht3 => ?_⟩
      have hG3 := hG2.same s3
      have hg3 := s3 _ _ hg
      have hgt := DGet.t (k := kN k) hG3.gv ht3
      refine ⟨_, rfl, g, CG, dx, _, _, rfl, hg3, T.c_Going, T.nG_given, lg_given, A.gv, _, rfl, hgt, _, rfl, ?_⟩
      have hlk := off_key (gv := S.gv) ek
      cases e2 : (valV S.gv (kN k)).isSome with
      | true =>
        refine iteF ?_
        refine ⟨_, _, rfl, s2.trans s3, fun d' hd' => ?_⟩
        rw [take_succ_get hd] at hd'
        rcases List.mem_append.mp hd' with z | z
        · exact hall d' z
        · rw [List.mem_singleton.mp z, hlk, e2]
          rfl
      | false =>
        refine iteT ?_
        have he : earlyR N S.gv p rw = some d.1 := by
          unfold earlyR
          rw [find_at hall hd (by rw [hlk, e2]; rfl)]
          rfl
        have := q H3 ((s1.trans s2).trans s3)
        rw [he] at this
        exact ⟨_, rfl, this⟩
    · rintro σ H2 ⟨v3, v4, rfl, s2, hall⟩
      have he : earlyR N S.gv p rw = none := by
        unfold earlyR
        rw [hwl, List.take_length] at hall
        rw [List.find?_eq_none.mpr (fun x hx => by rw [hall x hx]; exact Bool.false_ne_true)]
        rfl
      have := q H2 (s1.trans s2)
      rw [he] at this
      exact this
theorem paired_app {α β : Type} {F : α → β → Prop} : ∀ {xs us : List α} {ys vs : List β}, Paired F xs ys → Paired F us vs → Paired F (xs ++ us) (ys ++ vs) := by
  intro xs us ys vs h k
  induction h with
  | nil => exact k
  | cons h t ih => exact .cons h ih
theorem paired_rev {α β : Type} {F : α → β → Prop} : ∀ {xs : List α} {ys : List β}, Paired F xs ys → Paired F xs.reverse ys.reverse := by
  intro xs ys h
  induction h with
  | nil => exact .nil
  | cons h t ih =>
    rw [List.reverse_cons, List.reverse_cons]
    exact paired_app ih (.cons h .nil)
theorem rowsN_eq {N : Nt} (hn : (N.ps.map (·.1)).Nodup) {p : Str} {rs : List Rw} (h : (p, rs) ∈ N.ps) : rowsN N p = rs := by
  unfold rowsN
  have : N.ps.find? (fun q => decide (q.1 = p)) = some (p, rs) := by
    generalize N.ps = l at hn h
    induction l with
    | nil => simp at h
    | cons a l ih =>
      rw [List.map_cons, List.nodup_cons] at hn
      rcases List.mem_cons.mp h with z | z
      · rw [← z, List.find?_cons]
        simp
      · have hne : ¬ a.1 = p := fun e => hn.1 (by rw [e]; exact List.mem_map_of_mem (f := (·.1)) z)
        rw [List.find?_cons, decide_eq_false hne]
        exact ih hn.2 z
  rw [this]
  rfl
noncomputable def spBegin (CP CG : Addr) : Sp := fun vs H Q _ => ∃ (g : Addr) (A : GA) (N : Nt) (ns : List Int) (S : GS) (p : Str) (rs : List Rw), vs = [.ref g, .str p] ∧ GoAt CP CG H g A N ns S ∧ (p, rs) ∈ N.ps ∧ rowsN N p = rs ∧ rs.length ≤ 900 ∧ S.wt.length + rs.length ≤ 1000 ∧ S.bg.length ≤ 900 ∧ ∀ H', Fr g A H H' → GoAt CP CG H' g A N ns (beginS N S p) → Q .non H'
theorem ok_begin (T : Tc K mg CP CG) : MCl P w K mg base 2 CG "begin" ["self", "part"] (spBegin CP CG) := by
  have C_rows_of := ok_rows_of (P := P) (w := w) (base := base) T
  refine MCl.of T.m_begin sc_Going_begin (fun vs H Q E h => ?_) (fun _ _ _ _ _ _ us hl => len2 us hl (fun _ _ => rfl)) (fun fa cdv A outer s H vs Q E hr h => ?_)
  · obtain ⟨g, A, N, ns, S, p, rs, rfl, _⟩ := h
    rfl
  · obtain ⟨g, A, N, ns, S, p, rs, rfl, hG, hm, hrs, hl9, hwl, hbl, q⟩ := h
    have hu := hu_of hr
    obtain ⟨dx, v, hg, _⟩ := hG.ob
    refine ⟨_, (pss_cons (ps_dput hu (pe_fld (pv 0) rfl) (pv 1) pe_bl rfl)
      (pss_one (ps_for PassesOwn.never rfl (pi_rev (by rfl) T.n_reversed (pe_m C_rows_of T.c_PartsWalk hr (pe_fld (pv 0) rfl) (pa_cons (pv 1) pa_nil))) (pg_tup rfl (pgs_cons (pg_name (i := 2) sc_Going_begin.nd rfl (Or.inl rfl)) (pgs_cons (pg_name (i := 3) sc_Going_begin.nd rfl (Or.inl rfl)) (pgs_cons (pg_name (i := 4) sc_Going_begin.nd rfl (Or.inl rfl)) pgs_nil))))
        (pss_one (ps_expr (pe_bm PySem.F.plainAttrs_list PySem.F.slot_list_append PySem.F.type_list_append mt_append (pe_fld (pv 0) rfl) (pa_cons (pe_tup (pa_cons (pv 1) (pa_cons (pe_tup (pa_cons (pv 2) (pa_cons (pv 3) pa_nil))) (pa_cons (pv 4) pa_nil)))) pa_nil))))))), ?_⟩
    refine ⟨_, rfl, g, CG, dx, _, _, rfl, hg, T.c_Going, T.nG_begun, lg_begun, _, rfl, A.b, _, rfl, DPut.k (k := Sum.inr p) hG.bg (small1000 (by rw [setD_len]; omega)), ?_⟩
    rw [setD_put]
    obtain ⟨f1, hG1⟩ := hG.setBegun (addN S.bg p)
    generalize upd H A.b (.dK (setD (addN S.bg p))) = H1 at f1 hG1 ⊢
    obtain ⟨dx1, v1, hg1, _⟩ := hG1.ob
    obtain ⟨dw, rd, md, kvr, kvm, hw1, _⟩ := hG1.wk.ex
    refine ⟨_, rfl, g, CG, dx1, _, _, rfl, hg1, T.c_Going, T.nG_walk, lg_walk, A.w, dw, _, rfl, hw1, lw_rows_of, _, rfl, A.w, p, rs, N, rfl, hG1.wk, hm, hl9, fun t vs H2 s2 ht hvs => ?_⟩
    have hrv := paired_rev hvs
    have hvl : vs.length = rs.length := by rw [Paired.length hvs, idx_len]
    refine ⟨t, vs, rfl, SqT.of ht, for_rev (K := K) (a := t) (xs := vs) (fun i σ H3 => ∃ v2 v3 v4 : Option V, σ = [some (.ref g), some (.str p), v2, v3, v4] ∧ Fr g A H H3 ∧ Tups H2 H3 ∧ GoAt CP CG H3 g A N ns { S with bg := addN S.bg p, wt := S.wt ++ (idxRows p rs).reverse.take i })
      ⟨none, none, none, rfl, f1.trans (s2.fr g A), Tups.refl H2, by rw [List.take_zero, List.append_nil]; exact hG1.same s2⟩ (fun i σ H3 _ hpat => by obtain ⟨_, _, _, _, _, T3, _⟩ := hpat; exact SqT.of (T3 _ _ ht)) ?_ ?_⟩
    · rintro i y σ H3 hy ⟨v2, v3, v4, rfl, f3, T3, hG3⟩
      have hi : i < vs.reverse.length := (List.getElem?_eq_some_iff.mp hy).1
      rw [List.length_reverse] at hi
      obtain ⟨x, hx, tt, r, ey, htt, hra⟩ := Paired.get? hrv hy
      subst ey
      have hx1 : x.1 = p := by
        have := List.mem_reverse.mp (List.mem_of_getElem? hx)
        unfold idxRows at this
        obtain ⟨j, hj, e⟩ := List.mem_mapIdx.mp this
        rw [← e]
      refine ⟨tt, _, rfl, SqT.of (T3 _ _ htt), rfl, _, _, rfl, _, _, rfl, _, _, rfl, rfl, ?_⟩
      obtain ⟨dx3, w3, hg3, _⟩ := hG3.ob
      obtain ⟨us, hus, hup⟩ := hG3.wt
      refine ⟨_, rfl, g, CG, dx3, _, _, rfl, hg3, T.c_Going, T.nG_waiting, lg_waiting, .inl ⟨rfl, _, SqL.of hus⟩, _, rfl, _, rfl, _, rfl, (by show 2 ≤ sizeLine; decide), fun wh gwh => ?_⟩
      have s4 : Same H3 (upd H3 wh (.tup [.str x.1, .int (x.2.1 : Int)])) := (Same.refl H3).new gwh
      have hwh4 : upd H3 wh (.tup [.str x.1, .int (x.2.1 : Int)]) wh = some (.tup [.str x.1, .int (x.2.1 : Int)]) := upd_same
      generalize upd H3 wh (.tup [.str x.1, .int (x.2.1 : Int)]) = H4 at s4 hwh4 ⊢
      refine ⟨_, rfl, (by show 3 ≤ sizeLine; decide), fun t5 gt5 => ?_⟩
      have s5 : Same H4 (upd H4 t5 (.tup [.str p, .ref wh, .ref r])) := (Same.refl H4).new gt5
      have ht5 : upd H4 t5 (.tup [.str p, .ref wh, .ref r]) t5 = some (.tup [.str p, .ref wh, .ref r]) := upd_same
      generalize upd H4 t5 (.tup [.str p, .ref wh, .ref r]) = H5 at s5 ht5 ⊢
      have s35 := s4.trans s5
      have hG5 := hG3.same s35
      have hlen : us.length ≤ 999 := by
        have e1 := Paired.length hup
        have e2 : (S.wt ++ (idxRows p rs).reverse.take i).length ≤ S.wt.length + i := by
          rw [List.length_append, List.length_take]; omega
        have e3 : us.length = (S.wt ++ (idxRows p rs).reverse.take i).length := e1
        omega
      refine ⟨A.wt, _, _, rfl, rfl, s35 _ _ hus, small1000 (by omega), ?_⟩
      have hnew : Paired (WtAt H5) (us ++ [.ref t5]) (S.wt ++ (idxRows p rs).reverse.take (i + 1)) := by
        rw [take_succ_get hx, ← List.append_assoc]
        refine Paired.snoc (Paired.mapP hup fun _ _ z => z.mono s35.tups) ⟨t5, wh, r, rfl, by rw [hx1]; exact ht5, s5 _ _ hwh4, (hra.mono T3).mono s35.tups⟩
      obtain ⟨f6, hG6⟩ := hG5.setWait hnew
      exact ⟨_, _, _, rfl, (f3.trans (s35.fr g A)).trans f6, (T3.trans s35.tups).trans (hG5.tups f6), hG6⟩
    · rintro σ H3 ⟨v2, v3, v4, rfl, f3, T3, hG3⟩
      refine q H3 f3 ?_
      unfold beginS
      rw [hrs]
      rw [hvl, List.take_of_length_le (by rw [List.length_reverse, idx_len]; exact Nat.le_refl _)] at hG3
      exact hG3
noncomputable def spWork (CP CG : Addr) : Sp := fun vs H Q _ => ∃ (g wh r : Addr) (A : GA) (N : Nt) (ns : List Int) (S : GS) (p : Str) (j : Nat) (rw : Rw), vs = [.ref g, .str p, .ref wh, .ref r] ∧ GoAt CP CG H g A N ns S ∧ H wh = some (.tup [.str p, .int (j : Int)]) ∧ RowAt H r rw ∧ RowK N p rw ∧ (∀ d ∈ rdR rw, (lk N S.gv p d.2).isSome = true) ∧ S.gv.length ≤ 990 ∧ S.tr.length ≤ 990 ∧ ∀ H', Fr g A H H' → GoAt CP CG H' g A N ns (workS N ns S p j rw) → Q .non H'
theorem ok_do_work (T : Tc K mg CP CG) : MCl P w K mg base 4 CG "do_work" ["self", "part", "where", "row"] (spWork CP CG) := by
  have C_value_of := ok_value_of (P := P) (w := w) (base := base) T
  have C_give := ok_give (P := P) (w := w) (base := base) T
  have C_next_told := ok_next_told (P := P) (w := w) (base := base) T
  refine MCl.of T.m_do_work sc_Going_do_work (fun vs H Q E h => ?_) (fun _ _ _ _ _ _ us hl => len4 us hl (fun _ _ _ _ => rfl)) (fun fa cdv A outer s H vs Q E hr h => ?_)
  · obtain ⟨g, wh, r, A, N, ns, S, p, j, rw, rfl, _⟩ := h
    rfl
  · obtain ⟨g, wh, r, A, N, ns, S, p, j, rw, rfl, hG, hwh, hra, hK, hrd, hgl, htl, q⟩ := h
    obtain ⟨dx, v, hg, hft⟩ := hG.ob
    obtain ⟨us, hus, hup⟩ := hG.tr
    have hul : us.length ≤ 990 := by rw [Paired.length hup]; exact htl
    have hnm : ∀ d ∈ sgR rw, ∀ x, d.2 = .nam x → (lk N S.gv p x).isSome = true := fun d hd x e => by
      obtain ⟨e', he', ee⟩ := hK.nm d hd x e
      rw [← ee]
      exact hrd e' he'
    refine ⟨_, (pss_cons (ps_set (i := 4) sc_Going_do_work.nd rfl (Or.inl rfl) (pe_ix ix_tup (pv 3) pe_int (fun _ _ => rfl)))
      (pss_one (ps_if (pt_cmpR op_eq (pv 4) pe_str (nomark _))
        (pss_one (ps_expr (pe_m C_give T.c_Going hr (pv 0) (pa_cons (pv 1) (pa_cons (pe_ix ix_tup (pv 3) pe_int (fun _ _ => rfl)) (pa_cons (pe_m C_value_of T.c_Going hr (pv 0) (pa_cons (pv 1) (pa_cons (pe_ix ix_tup (pv 3) pe_int (fun _ _ => rfl)) pa_nil))) pa_nil)))))) (pss_one (ps_if (pt_cmpR op_eq (pv 4) pe_str (nomark _))
          (pss_cons (ps_set (i := 5) sc_Going_do_work.nd rfl (Or.inl rfl) (pe_m0 C_next_told T.c_Going hr (pv 0)))
          (pss_cons (ps_expr (pe_m C_give T.c_Going hr (pv 0) (pa_cons (pv 1) (pa_cons (pe_ix ix_tup (pv 3) pe_int (fun _ _ => rfl)) (pa_cons (pv 5) pa_nil)))))
          (pss_one (ps_expr (pe_bm PySem.F.plainAttrs_list PySem.F.slot_list_append PySem.F.type_list_append mt_append (pe_fld (pv 0) rfl) (pa_cons (pe_op op_catA (pe_tup (pa_cons pe_str (pa_cons (pv 5) pa_nil))) (pv 2)) pa_nil)))))) (pss_one (ps_if (pt_cmpR op_eq (pv 4) pe_str (nomark _))
            (pss_one (ps_expr (pe_bm PySem.F.plainAttrs_list PySem.F.slot_list_append PySem.F.type_list_append mt_append (pe_fld (pv 0) rfl) (pa_cons (pe_op op_catA (pe_tup (pa_cons pe_str (pa_cons (pe_m C_value_of T.c_Going hr (pv 0) (pa_cons (pv 1) (pa_cons (pe_ix ix_tup (pv 3) pe_int (fun _ _ => rfl)) pa_nil))) pa_nil))) (pv 2)) pa_nil)))) pss_never))))))), ?_⟩
    cases rw with
    | set o ts =>
      obtain ⟨t, hrt, hts⟩ := hra
      obtain ⟨k, ek⟩ := mk_get (hK.ow o rfl)
      refine ⟨_, rfl, r, _, _, _, rfl, rfl, SqT.of hrt, rfl, ?_⟩
      refine ⟨_, rfl, rfl, _, rfl, iteSE ?_⟩
      refine ⟨_, rfl, g, dx, _, rfl, hg, lg_give, _, rfl, _, rfl, r, _, _, _, rfl, rfl, SqT.of hrt, rfl, ?_⟩
      refine ⟨_, rfl, g, dx, _, rfl, hg, lg_value_of, _, rfl, _, rfl, r, _, _, _, rfl, rfl, SqT.of hrt, rfl, g, t, A, N, ns, S, p, ts, rfl, hG, hts, hK.sg, hnm, fun H1 s1 => ?_⟩
      refine ⟨g, A, N, ns, S, p, o, _, k, rfl, hG.same s1, ek, by omega, fun H2 f2 hG2 => ?_⟩
      refine q H2 ((s1.fr g A).trans f2) ?_
      show GoAt CP CG H2 g A N ns (match N.km (p, o) with | some q => { S with gv := putK S.gv (kN q) (.int (sumV N S.gv p ts)) } | none => S)
      rw [ek]
      exact hG2
    | take o =>
      have hrt : H r = some (.tup [.str "take", .str o]) := hra
      obtain ⟨k, ek⟩ := mk_get (hK.ow o rfl)
      refine ⟨_, rfl, r, _, _, _, rfl, rfl, SqT.of hrt, rfl, ?_⟩
      refine ⟨_, rfl, rfl, _, rfl, iteSN (show ¬ ("take" : Str) = "set" by decide +kernel) ?_⟩
      refine ⟨_, rfl, rfl, _, rfl, iteSE ?_⟩
      refine ⟨_, rfl, g, dx, _, rfl, hg, lg_next_told, g, A, N, ns, S, rfl, hG, fun H1 f1 hG1 => ?_⟩
      have T1 := hG.tups f1
      obtain ⟨dx1, v1, hg1, _⟩ := hG1.ob
      refine ⟨_, rfl, g, dx1, _, rfl, hg1, lg_give, _, rfl, _, rfl, r, _, _, _, rfl, rfl, SqT.of (T1 _ _ hrt), rfl, _, rfl, g, A, N, ns, _, p, o, _, k, rfl, hG1, ek, by show S.gv.length ≤ 1000; omega, fun H2 f2 hG2 => ?_⟩
      have T2 := T1.trans (hG1.tups f2)
      obtain ⟨dx2, v2, hg2, _⟩ := hG2.ob
      obtain ⟨us2, hus2, hup2⟩ := hG2.tr
      have hul2 : us2.length ≤ 990 := by rw [Paired.length hup2]; exact htl
      refine ⟨_, rfl, g, CG, dx2, _, _, rfl, hg2, T.c_Going, T.nG_trace, lg_trace, .inl ⟨rfl, _, SqL.of hus2⟩, _, rfl, (by show 2 ≤ sizeLine; decide), fun t3 gt3 => ?_⟩
      have s3 : Same H2 (upd H2 t3 (.tup [.str "take", .int (ns.getD S.tk 0)])) := (Same.refl H2).new gt3
      have ht3 : upd H2 t3 (.tup [.str "take", .int (ns.getD S.tk 0)]) t3 = some (.tup [.str "take", .int (ns.getD S.tk 0)]) := upd_same
      generalize upd H2 t3 (.tup [.str "take", .int (ns.getD S.tk 0)]) = H3 at s3 ht3 ⊢
      refine ⟨_, rfl, t3, wh, _, _, rfl, rfl, SqT.of ht3, SqT.of (s3 _ _ (T2 _ _ hwh)), (by show 4 ≤ sizeLine; decide), (fun z => by cases z), (fun _ z => by cases z), fun _ _ t4 gt4 => ?_⟩
      have s4 : Same H2 (upd H3 t4 (.tup ([.str "take", .int (ns.getD S.tk 0)] ++ [.str p, .int (j : Int)]))) := s3.new gt4
      have ht4 : upd H3 t4 (.tup ([.str "take", .int (ns.getD S.tk 0)] ++ [.str p, .int (j : Int)])) t4 = some (.tup ([.str "take", .int (ns.getD S.tk 0)] ++ [.str p, .int (j : Int)])) := upd_same
      generalize upd H3 t4 (.tup ([.str "take", .int (ns.getD S.tk 0)] ++ [.str p, .int (j : Int)])) = H4 at s4 ht4 ⊢
      have hG4 := hG2.same s4
      refine ⟨A.tr, _, _, rfl, rfl, s4 _ _ hus2, small1000 (by omega), ?_⟩
      obtain ⟨f5, hG5⟩ := hG4.pushTrace (d := ("take", ns.getD S.tk 0, p, j)) (s4 _ _ hus2) ⟨t4, rfl, ht4⟩
      refine q _ (((f1.trans f2).trans (s4.fr g A)).trans f5) ?_
      show GoAt CP CG _ g A N ns (match N.km (p, o) with | some q => { S with tk := if S.tk = ns.length then S.tk else S.tk + 1, gv := putK S.gv (kN q) (.int (ns.getD S.tk 0)), tr := S.tr ++ [(("take" : Str), ns.getD S.tk 0, p, j)] } | none => S)
      rw [ek]
      exact hG5
    | say ts wn =>
      cases hK.lt
      obtain ⟨t, hrt, hts⟩ := hra
      refine ⟨_, rfl, r, _, _, _, rfl, rfl, SqT.of hrt, rfl, ?_⟩
      refine ⟨_, rfl, rfl, _, rfl, iteSN (show ¬ ("say" : Str) = "set" by decide +kernel) ?_⟩
      refine ⟨_, rfl, rfl, _, rfl, iteSN (show ¬ ("say" : Str) = "take" by decide +kernel) ?_⟩
      refine ⟨_, rfl, rfl, _, rfl, iteSE ?_⟩
      refine ⟨_, rfl, g, CG, dx, _, _, rfl, hg, T.c_Going, T.nG_trace, lg_trace, .inl ⟨rfl, _, SqL.of hus⟩, ?_⟩
      refine ⟨_, rfl, g, dx, _, rfl, hg, lg_value_of, _, rfl, _, rfl, r, _, _, _, rfl, rfl, SqT.of hrt, rfl, g, t, A, N, ns, S, p, ts, rfl, hG, hts, hK.sg, hnm, fun H2 s2 => ?_⟩
      refine ⟨(by show 2 ≤ sizeLine; decide), fun t3 gt3 => ?_⟩
      have s3 : Same H (upd H2 t3 (.tup [.str "say", .int (sumV N S.gv p ts)])) := s2.new gt3
      have ht3 : upd H2 t3 (.tup [.str "say", .int (sumV N S.gv p ts)]) t3 = some (.tup [.str "say", .int (sumV N S.gv p ts)]) := upd_same
      generalize upd H2 t3 (.tup [.str "say", .int (sumV N S.gv p ts)]) = H3 at s3 ht3 ⊢
      refine ⟨_, rfl, t3, wh, _, _, rfl, rfl, SqT.of ht3, SqT.of (s3 _ _ hwh), (by show 4 ≤ sizeLine; decide), (fun z => by cases z), (fun _ z => by cases z), fun _ _ t4 gt4 => ?_⟩
      have s4 : Same H (upd H3 t4 (.tup ([.str "say", .int (sumV N S.gv p ts)] ++ [.str p, .int (j : Int)]))) := s3.new gt4
      have ht4 : upd H3 t4 (.tup ([.str "say", .int (sumV N S.gv p ts)] ++ [.str p, .int (j : Int)])) t4 = some (.tup ([.str "say", .int (sumV N S.gv p ts)] ++ [.str p, .int (j : Int)])) := upd_same
      generalize upd H3 t4 (.tup ([.str "say", .int (sumV N S.gv p ts)] ++ [.str p, .int (j : Int)])) = H4 at s4 ht4 ⊢
      have hG4 := hG.same s4
      refine ⟨A.tr, _, _, rfl, rfl, s4 _ _ hus, small1000 (by omega), ?_⟩
      obtain ⟨f5, hG5⟩ := hG4.pushTrace (d := ("say", sumV N S.gv p ts, p, j)) (s4 _ _ hus) ⟨t4, rfl, ht4⟩
      exact q _ ((s4.fr g A).trans f5) hG5
    | _ => cases hK.lt
set_option genInjectivity false in
structure NtOk (N : Nt) : Prop where
  nd : (N.ps.map (·.1)).Nodup
  rk : ∀ p rs, (p, rs) ∈ N.ps → ∀ rw ∈ rs, RowK N p rw
  tot : (N.ps.map fun x => x.2.length).sum ≤ 900
  len : N.ps.length ≤ 24
noncomputable def leftN (N : Nt) (bg : List Str) : Nat := ((N.ps.filter fun x => decide (x.1 ∉ bg)).map fun x => x.2.length).sum
noncomputable def WtOk (N : Nt) (S : GS) : Prop := ∀ x ∈ S.wt, ∃ rs, (x.1, rs) ∈ N.ps ∧ x.2.2 ∈ rs
theorem filter_sum (f : Pt → Bool) (l : List Pt) : ((l.filter f).map fun x => x.2.length).sum ≤ (l.map fun x => x.2.length).sum := by
  induction l with
  | nil => exact Nat.le_refl _
  | cons a l ih =>
    rw [List.filter_cons]
    split
    · simp only [List.map_cons, List.sum_cons]; omega
    · simp only [List.map_cons, List.sum_cons]; omega
theorem left_begin {N : Nt} (hn : (N.ps.map (·.1)).Nodup) {bg : List Str} {p : Str} {rs : List Rw} (h : (p, rs) ∈ N.ps) (hp : p ∉ bg) : leftN N (addN bg p) + rs.length = leftN N bg := by
  unfold leftN
  generalize N.ps = l at hn h
  induction l with
  | nil => simp at h
  | cons a l ih =>
    rw [List.map_cons, List.nodup_cons] at hn
    rcases List.mem_cons.mp h with z | z
    · have ha : a.1 = p := by rw [← z]
      have ha2 : a.2 = rs := by rw [← z]
      have hrest : l.filter (fun x => decide (x.1 ∉ addN bg p)) = l.filter (fun x => decide (x.1 ∉ bg)) := by
        refine List.filter_congr fun x hx => ?_
        have hxp : ¬ x.1 = p := fun e => hn.1 (by rw [ha, ← e]; exact List.mem_map_of_mem (f := (·.1)) hx)
        rw [Bool.eq_iff_iff, decide_eq_true_iff, decide_eq_true_iff, addN_mem]
        exact ⟨fun k y => k (.inl y), fun k y => y.elim k fun e => hxp e⟩
      rw [List.filter_cons, List.filter_cons, hrest]
      rw [if_neg (by rw [ha, decide_eq_true_iff, addN_mem]; exact fun k => k (.inr rfl)), if_pos (by rw [ha]; exact decide_eq_true hp)]
      simp only [List.map_cons, List.sum_cons]
      rw [ha2]
      omega
    · have hap : ¬ a.1 = p := fun e => hn.1 (by rw [e]; exact List.mem_map_of_mem (f := (·.1)) z)
      have ih' := ih hn.2 z
      rw [List.filter_cons, List.filter_cons]
      by_cases hb : a.1 ∈ bg
      · rw [if_neg (by rw [decide_eq_true_iff, addN_mem]; exact fun k => k (.inl hb)), if_neg (by rw [decide_eq_true_iff]; exact fun k => k hb)]
        exact ih'
      · rw [if_pos (by rw [decide_eq_true_iff, addN_mem]; exact fun k => k.elim hb hap), if_pos (by rw [decide_eq_true_iff]; exact hb)]
        simp only [List.map_cons, List.sum_cons]
        omega
theorem inV3 (k a b c : Str) : inV (.str k) [.str a, .str b, .str c] = decide (k = a ∨ k = b ∨ k = c) := by
  have := inV_strs k [a, b, c]
  simpa using this
noncomputable def spDo (CP CG : Addr) : Sp := fun vs H Q _ => ∃ (g wh r : Addr) (A : GA) (N : Nt) (ns : List Int) (S : GS) (p : Str) (j : Nat) (rw : Rw), vs = [.ref g, .str p, .ref wh, .ref r] ∧ GoAt CP CG H g A N ns S ∧ H wh = some (.tup [.str p, .int (j : Int)]) ∧ RowAt H r rw ∧ RowK N p rw ∧ S.gv.length ≤ 990 ∧ S.tr.length ≤ 990 ∧ ∀ H', Fr g A H H' → GoAt CP CG H' g A N ns (rowS N ns S p j rw) → Q .non H'
theorem early_none {N : Nt} {gv : List (List Key × V)} {p : Str} {rw : Rw} (h : earlyR N gv p rw = none) : ∀ d ∈ rdR rw, (lk N gv p d.2).isSome = true := fun d hd => by
  unfold earlyR at h
  rw [Option.map_eq_none_iff, List.find?_eq_none] at h
  have := h d hd
  cases e : (lk N gv p d.2).isSome with
  | true => rfl
  | false => rw [e] at this; exact absurd rfl this
theorem ok_do_row (T : Tc K mg CP CG) : MCl P w K mg base 6 CG "do_row" ["self", "part", "where", "row"] (spDo CP CG) := by
  have C_is_off := ok_is_off (P := P) (w := w) (base := base) T
  have C_early_word := ok_early_word (P := P) (w := w) (base := base) T
  have C_do_work := ok_do_work (P := P) (w := w) (base := base) T
  refine MCl.of T.m_do_row sc_Going_do_row (fun vs H Q E h => ?_) (fun _ _ _ _ _ _ us hl => len4 us hl (fun _ _ _ _ => rfl)) (fun fa cdv A outer s H vs Q E hr h => ?_)
  · obtain ⟨g, wh, r, A, N, ns, S, p, j, rw, rfl, _⟩ := h
    rfl
  · obtain ⟨g, wh, r, A, N, ns, S, p, j, rw, rfl, hG, hwh, hra, hK, hgl, htl, q⟩ := h
    obtain ⟨dx, v, hg, hft⟩ := hG.ob
    obtain ⟨x1, rest, hrt⟩ := hra.kind
    have z0 : atI (V.str (kindS rw) :: x1 :: rest) 0 = some (.str (kindS rw)) := atI_nat (j := 0) rfl
    refine ⟨_, (pss_cons (ps_if (pt_val (pe_m C_is_off T.c_Going hr (pv 0) (pa_cons (pv 1) (pa_cons (pv 3) pa_nil))))
        pss_never pss_nil)
      (pss_cons (ps_set (i := 4) sc_Going_do_row.nd rfl (Or.inl rfl) (pe_m C_early_word T.c_Going hr (pv 0) (pa_cons (pv 1) (pa_cons (pv 3) pa_nil))))
      (pss_one (ps_if (pt_cmp (pc_notN (pv 4)))
        (pss_one (ps_fld (pv 0) (pe_op op_catA (pe_op op_catA (pe_tup (pa_cons pe_str pa_nil)) (pv 2)) (pe_tup (pa_cons (pv 4) pa_nil))) rfl)) (pss_one (ps_if (pt_cmpR op_in_seq (pe_ix ix_tup (pv 3) pe_int (fun _ _ => rfl)) (pe_tup (pa_cons pe_str (pa_cons pe_str (pa_cons pe_str pa_nil)))) (by with_unfolding_all rfl))
          pss_never (pss_one (ps_expr (pe_m C_do_work T.c_Going hr (pv 0) (pa_cons (pv 1) (pa_cons (pv 2) (pa_cons (pv 3) pa_nil)))))))))))), ?_⟩
    refine ⟨_, rfl, g, dx, _, rfl, hg, lg_is_off, _, rfl, _, rfl, g, r, p, rw, rfl, hra, hK.lt, fun H1 s1 => ?_⟩
    have hG1 := hG.same s1
    have hoff : offR N S.gv p rw = false := by cases hK.lt <;> rfl
    refine ⟨_, rfl, iteF ?_⟩
    refine ⟨_, rfl, g, dx, _, rfl, s1 _ _ hg, lg_early_word, _, rfl, _, rfl, g, r, A, N, ns, S, p, rw, rfl, hG1, hra.mono s1.tups, hK, fun H2 s2 => ?_⟩
    have s02 := s1.trans s2
    have hG2 := hG.same s02
    have hg2 := s02 _ _ hg
    cases he : earlyR N S.gv p rw with
    | some wd =>
      refine ⟨_, rfl, _, rfl, iteNX (by intro z; cases z) ?_⟩
      refine ⟨(by show 1 ≤ sizeLine; decide), fun t3 gt3 => ?_⟩
      have s3 : Same H (upd H2 t3 (.tup [.str "early"])) := s02.new gt3
      have ht3 : upd H2 t3 (.tup [.str "early"]) t3 = some (.tup [.str "early"]) := upd_same
      generalize upd H2 t3 (.tup [.str "early"]) = H3 at s3 ht3 ⊢
      refine ⟨_, rfl, t3, wh, _, _, rfl, rfl, SqT.of ht3, SqT.of (s3 _ _ hwh), (by show 3 ≤ sizeLine; decide), (fun z => by cases z), (fun _ z => by cases z), fun _ _ t4 gt4 => ?_⟩
      have s4 : Same H (upd H3 t4 (.tup ([.str "early"] ++ [.str p, .int (j : Int)]))) := s3.new gt4
      have ht4 : upd H3 t4 (.tup ([.str "early"] ++ [.str p, .int (j : Int)])) t4 = some (.tup ([.str "early"] ++ [.str p, .int (j : Int)])) := upd_same
      generalize upd H3 t4 (.tup ([.str "early"] ++ [.str p, .int (j : Int)])) = H4 at s4 ht4 ⊢
      refine ⟨_, rfl, (by show 1 ≤ sizeLine; decide), fun t5 gt5 => ?_⟩
      have s5 : Same H (upd H4 t5 (.tup [optI (some wd)])) := s4.new gt5
      have ht5 : upd H4 t5 (.tup [optI (some wd)]) t5 = some (.tup [optI (some wd)]) := upd_same
      have ht45 := upd_keep (o := .tup [optI (some wd)]) ht4 gt5
      generalize upd H4 t5 (.tup [optI (some wd)]) = H5 at s5 ht5 ht45 ⊢
      refine ⟨t4, t5, _, _, rfl, rfl, SqT.of ht45, SqT.of ht5, (by show 4 ≤ sizeLine; decide), (fun z => by cases z), (fun _ z => by cases z), fun _ _ t6 gt6 => ?_⟩
      have s6 : Same H (upd H5 t6 (.tup (([.str "early"] ++ [.str p, .int (j : Int)]) ++ [optI (some wd)]))) := s5.new gt6
      have ht6 : upd H5 t6 (.tup (([.str "early"] ++ [.str p, .int (j : Int)]) ++ [optI (some wd)])) t6 = some (.tup (([.str "early"] ++ [.str p, .int (j : Int)]) ++ [optI (some wd)])) := upd_same
      generalize upd H5 t6 (.tup (([.str "early"] ++ [.str p, .int (j : Int)]) ++ [optI (some wd)])) = H6 at s6 ht6 ⊢
      have hG6 := hG.same s6
      refine ⟨_, rfl, g, CG, dx, _, rfl, s6 _ _ hg, T.c_Going, T.nG_fault, gF_len, ?_⟩
      rw [put_fault]
      obtain ⟨f7, hG7⟩ := hG6.setSelf (dx := dx) (tk := S.tk) (v := .ref t6) (ft := some ("early", p, j, wd)) ⟨t6, rfl, ht6⟩ hG.tkl
      refine q _ ((s6.fr g A).trans f7) ?_
      rw [rowS_early hoff he]
      exact hG7
    | none =>
      refine ⟨_, rfl, _, rfl, iteNS rfl ?_⟩
      have hrs := rowS_none (ns := ns) (j := j) hoff he
      refine ⟨_, rfl, r, _, _, _, rfl, rfl, SqT.of (s02 _ _ hrt), z0, (by show 3 ≤ sizeLine; decide), fun t3 gt3 => ?_⟩
      have s3 : Same H (upd H2 t3 (.tup [.str "bring", .str "do", .str "ask"])) := s02.new gt3
      have ht3 : upd H2 t3 (.tup [.str "bring", .str "do", .str "ask"]) t3 = some (.tup [.str "bring", .str "do", .str "ask"]) := upd_same
      generalize upd H2 t3 (.tup [.str "bring", .str "do", .str "ask"]) = H3 at s3 ht3 ⊢
      refine ⟨t3, _, rfl, .inr (SqT.of ht3), rfl, rfl, _, rfl, ?_⟩
      rw [if_neg (by decide), inV3]
      have hG3 := hG.same s3
      have hg3 := s3 _ _ hg
      have work : tailS N ns S p j rw = workS N ns S p j rw → spWork CP CG [.ref g, .str p, .ref wh, .ref r] H3 Q E0 := fun e =>
        ⟨g, wh, r, A, N, ns, S, p, j, rw, rfl, hG3, s3 _ _ hwh, hra.mono s3.tups, hK, early_none he, hgl, htl, fun H4 f4 hG4 => q H4 ((s3.fr g A).trans f4) (by rw [hrs, e]; exact hG4)⟩
      cases rw with
      | set o ts =>
        rw [decide_eq_false (by simp only [kindS]; decide +kernel)]
        refine iteF ?_
        exact ⟨_, rfl, g, dx, _, rfl, hg3, lg_do_work, _, rfl, _, rfl, _, rfl, work rfl⟩
      | take o =>
        rw [decide_eq_false (by simp only [kindS]; decide +kernel)]
        refine iteF ?_
        exact ⟨_, rfl, g, dx, _, rfl, hg3, lg_do_work, _, rfl, _, rfl, _, rfl, work rfl⟩
      | say ts wn =>
        rw [decide_eq_false (by simp only [kindS]; decide +kernel)]
        refine iteF ?_
        exact ⟨_, rfl, g, dx, _, rfl, hg3, lg_do_work, _, rfl, _, rfl, _, rfl, work rfl⟩
      | _ => cases hK.lt
inductive Steps (N : Nt) (ns : List Int) : GS → GS → Prop where
  | refl (S : GS) : Steps N ns S S
  | step {S S' : GS} {W : List Wx} {p : Str} {j : Nat} {rw : Rw} : S.ft = none → S.wt = W ++ [(p, j, rw)] → Steps N ns (rowS N ns { S with wt := W } p j rw) S' → Steps N ns S S'
theorem Steps.trans {N : Nt} {ns : List Int} {S S1 S2 : GS} (h : Steps N ns S S1) (k : Steps N ns S1 S2) : Steps N ns S S2 := by
  induction h with
  | refl _ => exact k
  | step a b _ ih => exact .step a b (ih k)
theorem Steps.snoc {N : Nt} {ns : List Int} {S S1 : GS} {W : List Wx} {p : Str} {j : Nat} {rw : Rw} (h : Steps N ns S S1) (a : S1.ft = none) (b : S1.wt = W ++ [(p, j, rw)]) : Steps N ns S (rowS N ns { S1 with wt := W } p j rw) := h.trans (.step a b (.refl _))
noncomputable def muN (N : Nt) (S : GS) : Nat := S.wt.length + leftN N S.bg
set_option genInjectivity false in
structure GoOk (N : Nt) (S : GS) : Prop where
  wo : WtOk N S
  gl : S.gv.length + muN N S ≤ 990
  tl : S.tr.length + muN N S ≤ 990
  bl : S.bg.length ≤ N.ps.length
  bn : S.bg.Nodup
  bm : ∀ p ∈ S.bg, p ∈ N.ps.map (·.1)
theorem putK_len {κ : Type} [DecidableEq κ] (kvs : List (κ × V)) (k : κ) (v : V) : (putK kvs k v).length ≤ kvs.length + 1 := by
  unfold putK
  split
  · rw [List.length_map]; omega
  · rw [List.length_append]; exact Nat.le_refl _
theorem begin_ok {N : Nt} {S : GS} {p : Str} {rs : List Rw} (hN : NtOk N) (h : GoOk N S) (hm : (p, rs) ∈ N.ps) (hp : p ∉ S.bg) : GoOk N (beginS N S p) ∧ muN N (beginS N S p) = muN N S := by
  have hrs := rowsN_eq hN.nd hm
  have hl := left_begin hN.nd hm hp
  have hmu : muN N (beginS N S p) = muN N S := by
    show (S.wt ++ (idxRows p (rowsN N p)).reverse).length + leftN N (addN S.bg p) = S.wt.length + leftN N S.bg
    rw [List.length_append, List.length_reverse, idx_len, hrs]
    omega
  have hadd : addN S.bg p = S.bg ++ [p] := by unfold addN; rw [if_neg hp]
  have hbn : (S.bg ++ [p]).Nodup := List.nodup_append.mpr ⟨h.bn, by simp, fun a ha b hb => by rw [List.mem_singleton.mp hb]; exact fun z => hp (z ▸ ha)⟩
  have hbm : ∀ q ∈ S.bg ++ [p], q ∈ N.ps.map (·.1) := fun q hq => by
    rcases List.mem_append.mp hq with z | z
    · exact h.bm q z
    · rw [List.mem_singleton.mp z]; exact List.mem_map_of_mem (f := (·.1)) hm
  refine ⟨⟨fun x hx => ?_, by rw [hmu]; exact h.gl, by rw [hmu]; exact h.tl, ?_, ?_, ?_⟩, hmu⟩
  · have hx' : x ∈ S.wt ++ (idxRows p (rowsN N p)).reverse := hx
    rcases List.mem_append.mp hx' with z | z
    · exact h.wo x z
    · have := List.mem_reverse.mp z
      unfold idxRows at this
      rw [hrs] at this
      obtain ⟨i, hi, e⟩ := List.mem_mapIdx.mp this
      refine ⟨rs, by rw [← e]; exact hm, ?_⟩
      rw [← e]
      exact List.getElem_mem hi
  · show (addN S.bg p).length ≤ _
    rw [hadd]
    have := nodup_lenG (S.bg ++ [p]) (N.ps.map (·.1)) hbn hbm
    rw [List.length_map] at this
    exact this
  · show (addN S.bg p).Nodup
    rw [hadd]; exact hbn
  · show ∀ q ∈ addN S.bg p, _
    rw [hadd]; exact hbm
theorem row_ok {N : Nt} {ns : List Int} {S : GS} {W : List Wx} {p : Str} {j : Nat} {rw : Rw} (hN : NtOk N) (h : GoOk N S) (hw : S.wt = W ++ [(p, j, rw)]) : GoOk N (rowS N ns { S with wt := W } p j rw) ∧ muN N (rowS N ns { S with wt := W } p j rw) < muN N S := by
  obtain ⟨rs, hm, hmr⟩ := h.wo (p, j, rw) (by rw [hw]; simp)
  have hmu0 : muN N { S with wt := W } + 1 = muN N S := by
    show W.length + leftN N S.bg + 1 = S.wt.length + leftN N S.bg
    rw [hw, List.length_append]
    simp; omega
  have h0 : GoOk N { S with wt := W } := ⟨fun x hx => h.wo x (by rw [hw]; exact List.mem_append_left _ hx), by have := h.gl; show S.gv.length + muN N { S with wt := W } ≤ 990; omega, by have := h.tl; show S.tr.length + muN N { S with wt := W } ≤ 990; omega, h.bl, h.bn, h.bm⟩
  have hg1 : S.gv.length + muN N { S with wt := W } + 1 ≤ 990 := by have := h.gl; omega
  have ht1 : S.tr.length + muN N { S with wt := W } + 1 ≤ 990 := by have := h.tl; omega
  have keep : GoOk N { S with wt := W } ∧ muN N { S with wt := W } < muN N S := ⟨h0, by omega⟩
  cases hoff : offR N { S with wt := W }.gv p rw with
  | true => rw [rowS_off hoff]; exact keep
  | false =>
    cases he : earlyR N { S with wt := W }.gv p rw with
    | some wd =>
      rw [rowS_early hoff he]
      exact ⟨⟨h0.wo, h0.gl, h0.tl, h0.bl, h0.bn, h0.bm⟩, keep.2⟩
    | none =>
      rw [rowS_none hoff he]
      cases rw with
      | bring b ps => cases (hN.rk p rs hm _ hmr).lt
      | ask b wn => cases (hN.rk p rs hm _ hmr).lt
      | set o ts =>
        cases e : N.km (p, o) with
        | none => simp only [tailS, workS, e]; exact keep
        | some k =>
          simp only [tailS, workS, e]
          refine ⟨⟨h0.wo, ?_, h0.tl, h0.bl, h0.bn, h0.bm⟩, keep.2⟩
          have := putK_len S.gv (kN k) (.int (sumV N S.gv p ts))
          show (putK S.gv (kN k) (.int (sumV N S.gv p ts))).length + muN N { S with wt := W } ≤ 990
          omega
      | take o =>
        cases e : N.km (p, o) with
        | none => simp only [tailS, workS, e]; exact keep
        | some k =>
          simp only [tailS, workS, e]
          refine ⟨⟨h0.wo, ?_, ?_, h0.bl, h0.bn, h0.bm⟩, keep.2⟩
          · have := putK_len S.gv (kN k) (.int (ns.getD S.tk 0))
            show (putK S.gv (kN k) (.int (ns.getD S.tk 0))).length + muN N { S with wt := W } ≤ 990
            omega
          · show (S.tr ++ [_]).length + muN N { S with wt := W } ≤ 990
            rw [List.length_append]; simp; omega
      | say ts wn =>
        refine ⟨⟨h0.wo, h0.gl, ?_, h0.bl, h0.bn, h0.bm⟩, keep.2⟩
        show (S.tr ++ [_]).length + muN N { S with wt := W } ≤ 990
        rw [List.length_append]; simp; omega
      | need ts =>
        simp only [tailS, workS]
        split
        · exact ⟨⟨h0.wo, h0.gl, h0.tl, h0.bl, h0.bn, h0.bm⟩, keep.2⟩
        · exact keep
      | give o g => exact keep
      | part b => exact keep
      | doo b => exact keep
noncomputable def muH (N : Nt) (A : GA) (H : Hp) : Nat := (match H A.wt with | some (.lst vs) => vs.length | _ => 0) + (match H A.b with | some (.dK kvs) => ((N.ps.filter fun (x : Pt) => !(valV kvs (Sum.inr x.1)).isSome).map fun x => x.2.length).sum | _ => 0)
theorem muH_eq {CP CG : Addr} {H : Hp} {g : Addr} {A : GA} {N : Nt} {ns : List Int} {S : GS} (h : GoAt CP CG H g A N ns S) : muH N A H = muN N S := by
  obtain ⟨vs, h1, h2⟩ := h.wt
  have hf : N.ps.filter (fun (x : Pt) => !(valV (setD S.bg) (Sum.inr x.1)).isSome) = N.ps.filter (fun x => decide (x.1 ∉ S.bg)) := List.filter_congr fun x _ => by
    rw [setD_some]
    by_cases hx : x.1 ∈ S.bg
    · simp [hx]
    · simp [hx]
  unfold muH muN leftN
  rw [h1, h.bg]
  show vs.length + ((N.ps.filter (fun (x : Pt) => !(valV (setD S.bg) (Sum.inr x.1)).isSome)).map fun x => x.2.length).sum = _
  rw [hf, Paired.length h2]
theorem paired_last {α β : Type} {F : α → β → Prop} : ∀ {us : List α} {y : α} {ws : List β}, Paired F (us ++ [y]) ws → ∃ W x, ws = W ++ [x] ∧ Paired F us W ∧ F y x
  | [], y, _, .cons h .nil => ⟨[], _, rfl, .nil, h⟩
  | a :: us, y, _, .cons h t => by
    obtain ⟨W, x, e, h1, h2⟩ := paired_last (us := us) t
    exact ⟨_ :: W, x, by rw [e]; rfl, .cons h h1, h2⟩
theorem row_le {N : Nt} (hN : NtOk N) {p : Str} {rs : List Rw} (h : (p, rs) ∈ N.ps) : rs.length ≤ 900 := by
  have := hN.tot
  have : ∀ l : List Pt, (p, rs) ∈ l → rs.length ≤ (l.map fun x => x.2.length).sum := by
    intro l hl
    induction l with
    | nil => simp at hl
    | cons a l ih =>
      rw [List.map_cons, List.sum_cons]
      rcases List.mem_cons.mp hl with z | z
      · rw [← z]; simp
      · have := ih z; omega
  have := this N.ps h
  omega
noncomputable def spGoOn (CP CG : Addr) : Sp := fun vs H Q _ => ∃ (g : Addr) (A : GA) (N : Nt) (ns : List Int) (S : GS), vs = [.ref g] ∧ GoAt CP CG H g A N ns S ∧ NtOk N ∧ GoOk N S ∧ ∀ (S' : GS) (H' : Hp), Fr g A H H' → GoAt CP CG H' g A N ns S' → Steps N ns S S' → (S'.wt = [] ∨ S'.ft ≠ none) → Q .non H'
theorem isE_len {α : Type} {l : List α} (h : l ≠ []) : (!l.isEmpty) = true := by cases l with | nil => exact absurd rfl h | cons _ _ => rfl
theorem ok_go_on (T : Tc K mg CP CG) : MCl P w K mg base 7 CG "go_on" ["self"] (spGoOn CP CG) := by
  have C_do_row := ok_do_row (P := P) (w := w) (base := base) T
  refine MCl.of T.m_go_on sc_Going_go_on (fun vs H Q E h => ?_) (fun _ _ _ _ _ _ us hl => len1 us hl (fun _ => rfl)) (fun fa cdv A outer s H vs Q E hr h => ?_)
  · obtain ⟨g, A, N, ns, S, rfl, _⟩ := h
    rfl
  · obtain ⟨g, A, N, ns, S, rfl, hG, hN, hO, q⟩ := h
    refine ⟨_, (pss_one (ps_while PassesOwn.never (PW.pt (pw_and (pt_truth (pe_fld (pv 0) rfl) (fun _ => rfl)) (pw_and1 (pt_cmp (pc_isN (pe_fld (pv 0) rfl))))))
        (pss_cons (ps_set (i := 1) sc_Going_go_on.nd rfl (Or.inl rfl) (pe_bm0 PySem.F.plainAttrs_list PySem.F.slot_list_pop PySem.F.type_list_pop mt_pop (pe_fld (pv 0) rfl)))
        (pss_one (ps_expr (pe_m C_do_row T.c_Going hr (pv 0) (pa_cons (pe_ix ix_tup (pv 1) pe_int (fun _ _ => rfl)) (pa_cons (pe_ix ix_tup (pv 1) pe_int (fun _ _ => rfl)) (pa_cons (pe_ix ix_tup (pv 1) pe_int (fun _ _ => rfl)) pa_nil))))))))), ?_⟩
    refine while_by (fun σ H2 => ∃ (v1 : Option V) (S2 : GS), σ = [some (.ref g), v1] ∧ Fr g A H H2 ∧ GoAt CP CG H2 g A N ns S2 ∧ GoOk N S2 ∧ Steps N ns S S2) (fun _ H2 => muH N A H2) ⟨none, S, rfl, Fr.refl g A H, hG, hO, .refl S⟩ ?_ ?_
    · rintro σ H2 ⟨v1, S2, rfl, f2, hG2, hO2, hst⟩
      obtain ⟨dx, v, hg, hft⟩ := hG2.ob
      obtain ⟨vs, hvs, hvp⟩ := hG2.wt
      refine ⟨_, rfl, g, CG, dx, _, _, rfl, hg, T.c_Going, T.nG_waiting, lg_waiting, _, .inl ⟨_, SqL.of hvs, rfl⟩, ?_⟩
      cases hL : vs.getLast? with
      | none =>
        have hve : vs = [] := List.getLast?_eq_none_iff.mp hL
        subst hve
        have hw0 : S2.wt = [] := List.length_eq_zero_iff.mp (by have := Paired.length hvp; simpa using this.symm)
        refine iteF ?_
        show if false = true then _ else _
        refine iteF ?_
        exact q S2 H2 f2 hG2 hst (.inl hw0)
      | some y =>
        obtain ⟨us, hus⟩ := List.getLast?_eq_some_iff.mp hL
        have hne : vs ≠ [] := by rw [hus]; simp
        rw [isE_len hne]
        refine iteT ?_
        refine ⟨_, rfl, g, CG, dx, _, _, rfl, hg, T.c_Going, T.nG_fault, lg_fault, _, rfl, ?_⟩
        cases hf : S2.ft with
        | some ff =>
          rw [hf] at hft
          obtain ⟨tf, ev, _⟩ := hft
          subst ev
          refine iteDN (by intro z; cases z) ?_
          exact q S2 H2 f2 hG2 hst (.inr (by rw [hf]; intro z; cases z))
        | none =>
          rw [hf] at hft
          have ev : v = .non := hft
          subst ev
          refine iteDP rfl ?_
          have hlast : vs[vs.length - 1]? = some y := by rw [← List.getLast?_eq_getElem?, hL]
          have hdl : vs.dropLast = us := by rw [hus, List.dropLast_concat]
          obtain ⟨W, ⟨p, j, rw⟩, hW, hWp, hy⟩ : ∃ W x, S2.wt = W ++ [x] ∧ Paired (WtAt H2) us W ∧ WtAt H2 y x := paired_last (by rw [← hus]; exact hvp)
          obtain ⟨t, wh, r, ey, ht, hwh, hra⟩ := hy
          subst ey
          refine ⟨_, rfl, g, CG, dx, _, _, rfl, hg, T.c_Going, T.nG_waiting, lg_waiting, .inl ⟨rfl, _, SqL.of hvs⟩, A.wt, _, _, rfl, rfl, hvs, hlast, ?_⟩
          rw [hdl]
          obtain ⟨f3, hG3⟩ := hG2.setWait hWp
          have T3 := hG2.tups f3
          have hmu := muH_eq hG2
          generalize upd H2 A.wt (.lst us) = H3 at f3 hG3 T3 ⊢
          obtain ⟨dx3, v3, hg3, _⟩ := hG3.ob
          obtain ⟨rs, hm, hmr⟩ := hO2.wo (p, j, rw) (by rw [hW]; simp)
          have hrk := row_ok (ns := ns) hN hO2 hW
          have hlt : W.length + 1 = S2.wt.length := by rw [hW, List.length_append]; rfl
          have hgl := hO2.gl
          have htl := hO2.tl
          have hbl := hO2.bl
          have hNl := hN.len
          unfold muN at hgl htl
          refine ⟨_, rfl, g, dx3, _, rfl, hg3, lg_do_row, _, rfl, t, _, _, _, rfl, rfl, SqT.of (T3 _ _ ht), rfl, _, rfl, t, _, _, _, rfl, rfl, SqT.of (T3 _ _ ht), rfl, _, rfl, t, _, _, _, rfl, rfl, SqT.of (T3 _ _ ht), rfl, ?_⟩
          refine ⟨g, wh, r, A, N, ns, _, p, j, rw, rfl, hG3, T3 _ _ hwh, hra.mono T3, hN.rk p rs hm rw hmr, by show S2.gv.length ≤ 990; omega, by show S2.tr.length ≤ 990; omega, fun H4 f4 hG4 => ?_⟩
          refine ⟨⟨_, _, rfl, (f2.trans f3).trans f4, hG4, hrk.1, hst.snoc hf hW⟩, ?_⟩
          rw [muH_eq hG4, hmu]
          exact hrk.2
    · rintro σ H2 Q1 Q2 hQ ⟨v, e, a, C, dx, fs, v', ex, h1, c1, n1, l1, b, hb, hq⟩
      refine ⟨v, e, a, C, dx, fs, v', ex, h1, c1, n1, l1, b, hb, ?_⟩
      cases b with
      | false => exact iteF (hQ _ _ (by simpa using hq))
      | true =>
        have hq' := hq
        rw [if_pos rfl] at hq'
        obtain ⟨v, e, a, C, dx, fs, v', ex, h1, c1, n1, l1, b, hb, hq2⟩ := hq'
        exact iteT ⟨v, e, a, C, dx, fs, v', ex, h1, c1, n1, l1, b, hb, hQ _ _ hq2⟩
noncomputable def spGo (CP CG : Addr) : Sp := fun vs H Q _ => ∃ (w n : Addr) (N : Nt) (ns : List Int) (root : Str), vs = [.ref w, .str root, .ref n] ∧ WalkAt CP H w N ∧ H n = some (.tup (ns.map V.int)) ∧ NtOk N ∧ root ∈ N.ps.map (·.1) ∧
  ∀ (p t : Addr) (vs : List V) (v : V) (S' : GS) (H' : Hp), Same H H' → H' p = some (.tup [.ref t, v]) → H' t = some (.tup vs) → Paired (DdAt H') vs S'.tr → FtAt H' v S'.ft → Steps N ns (beginS N s0 root) S' → (S'.wt = [] ∨ S'.ft ≠ none) → Q (.ref p) H'
theorem leftN_nil {N : Nt} (hN : NtOk N) : leftN N [] ≤ 900 := Nat.le_trans (filter_sum _ _) hN.tot
theorem ok_go (T : Tc K mg CP CG) : MCl P w K mg base 8 CP "go" ["self", "root", "numbers"] (spGo CP CG) := by
  have C_Going := ok_GoInit (P := P) (w := w) (base := base) T
  have C_load := ok_load (P := P) (w := w) (base := base) T
  have C_loads_of := ok_loads_of (P := P) (w := w) (base := base) T
  have C_ahead_of := ok_ahead_of (P := P) (w := w) (base := base) T
  have C_begin := ok_begin (P := P) (w := w) (base := base) T
  have C_go_on := ok_go_on (P := P) (w := w) (base := base) T
  refine MCl.of T.m_go sc_Walk_go (fun vs H Q E h => ?_) (fun _ _ _ _ _ _ us hl => len3 us hl (fun _ _ _ => rfl)) (fun fa cdv A outer s H vs Q E hr h => ?_)
  · obtain ⟨w, n, N, ns, root, rfl, _⟩ := h
    rfl
  · obtain ⟨w, n, N, ns, root, rfl, hw, hn, hN, hroot, q⟩ := h
    obtain ⟨dw, rd, md, kvr, kvm, h1, h2, h3, h4, h5⟩ := hw.ex
    obtain ⟨⟨root', rs⟩, hm, e⟩ := List.mem_map.mp hroot
    have e' : root' = root := e
    subst e'
    refine ⟨_, (pss_cons (ps_set (i := 3) sc_Walk_go.nd rfl (Or.inl rfl) (pe_mk C_Going hr (by rfl) (pa_cons (pv 0) (pa_cons (pv 2) pa_nil))))
      (pss_cons (ps_expr (pe_m C_load T.c_Going hr (pv 3) (pa_cons (pe_m C_loads_of T.c_PartsWalk hr (pv 0) (pa_cons (pv 1) pa_nil)) pa_nil)))
      (pss_cons (ps_expr (pe_m C_load T.c_Going hr (pv 3) (pa_cons (pe_m C_ahead_of T.c_PartsWalk hr (pv 0) (pa_cons (pv 1) pa_nil)) pa_nil)))
      (pss_cons (ps_expr (pe_m C_begin T.c_Going hr (pv 3) (pa_cons (pv 1) pa_nil)))
      (pss_cons (ps_expr (pe_m0 C_go_on T.c_Going hr (pv 3)))
      (pss_one (ps_ret (pe_tup (pa_cons (pe_callTy call_tuple_of (by rfl) T.n_tuple boot_tuple (pa_cons (pe_fld (pv 3) rfl) pa_nil)) (pa_cons (pe_fld (pv 3) rfl) pa_nil)))))))))), ?_⟩
    refine ⟨_, rfl, _, rfl, fun g dx ng ndx ne => ?_⟩
    have sA : Same H (upd (upd H dx (.own g)) g (.ins CG dx [])) := fun b o e => by
      rw [upd_ne (ne_of_none e ng), upd_ne (ne_of_none e ndx)]
      exact e
    have hgA : upd (upd H dx (.own g)) g (.ins CG dx []) g = some (.ins CG dx []) := upd_same
    have hdA : upd (upd H dx (.own g)) g (.ins CG dx []) dx = some (.own g) := by rw [upd_ne ne, upd_same]
    generalize upd (upd H dx (.own g)) g (.ins CG dx []) = HA at sA hgA hdA ⊢
    have hwA : WalkAt CP HA w N := ⟨dw, rd, md, kvr, kvm, sA _ _ h1, sA _ _ h2, sA _ _ h3, fun n rs hm => by
      obtain ⟨u, ws, e1, e2, e3⟩ := h4 n rs hm
      exact ⟨u, ws, e1, sA _ _ e2, e3.mono sA.tups⟩, fun p x k hk => by
      obtain ⟨t, e1, e2⟩ := h5 p x k hk
      exact ⟨t, e1, sA _ _ e2⟩⟩
    refine ⟨g, w, n, dx, N, ns, rfl, hgA, hwA, ne_of_none h1 ng, sA _ _ hn, fun A H1 kA fA hG1 => ⟨rfl, ?_⟩⟩
    obtain ⟨fb, fl, fv, fw, ft⟩ := fA
    have s1 : Same H H1 := fun b o e => kA b o (sA b o e) (ne_of_none e ng)
    have nb := sA.free fb
    have nl := sA.free fl
    have nv := sA.free fv
    have nw := sA.free fw
    have nt' := sA.free ft
    have fr : ∀ {H' : Hp}, Fr g A H1 H' → Same H H' := fun {H'} f b o e => f b o (s1 b o e) (ne_of_none e ng) (ne_of_none e nb) (ne_of_none e nl) (ne_of_none e nv) (ne_of_none e nw) (ne_of_none e nt')
    obtain ⟨dx1, v1, hg1, _⟩ := hG1.ob
    have hw1 := s1 _ _ h1
    refine ⟨_, rfl, g, dx1, _, rfl, hg1, lg_load, _, rfl, w, dw, _, rfl, hw1, lw_loads_of, _, rfl, w, root', N, rfl, walk_same hw s1, fun t2 H2 s2 ht2 => ?_⟩
    refine ⟨g, t2, rfl, ht2, ?_⟩
    have hg2 := s2 _ _ hg1
    refine ⟨_, rfl, g, dx1, _, rfl, hg2, lg_load, _, rfl, w, dw, _, rfl, s2 _ _ hw1, lw_ahead_of, _, rfl, w, root', N, rfl, walk_same hw (s1.trans s2), fun t3 H3 s3 ht3 => ?_⟩
    refine ⟨g, t3, rfl, ht3, ?_⟩
    have s13 := s2.trans s3
    have hG3 := hG1.same s13
    have hg3 := s13 _ _ hg1
    refine ⟨_, rfl, g, dx1, _, rfl, hg3, lg_begin, _, rfl, g, A, N, ns, s0, root', rs, rfl, hG3, hm, rowsN_eq hN.nd hm, row_le hN hm, (by have := row_le hN hm; show 0 + rs.length ≤ 1000; omega), (by show 0 ≤ 900; decide), fun H4 f4 hG4 => ?_⟩
    obtain ⟨dx4, v4, hg4, _⟩ := hG4.ob
    have hl := left_begin (bg := []) hN.nd hm (by simp)
    have hO0 : GoOk N s0 := ⟨fun x hx => by simp [s0] at hx, by have := leftN_nil hN; show 0 + (0 + leftN N []) ≤ 990; omega, by have := leftN_nil hN; show 0 + (0 + leftN N []) ≤ 990; omega, Nat.zero_le _, List.nodup_nil, fun p hp => by simp [s0] at hp⟩
    obtain ⟨hO4, _⟩ := begin_ok hN hO0 hm (by simp [s0])
    refine ⟨_, rfl, g, dx4, _, rfl, hg4, lg_go_on, g, A, N, ns, _, rfl, hG4, hN, hO4, fun S' H5 f5 hG5 hst hend => ?_⟩
    obtain ⟨dx5, v5, hg5, hft5⟩ := hG5.ob
    obtain ⟨us, hus, hup⟩ := hG5.tr
    have f15 : Fr g A H1 H5 := ((s13.fr g A).trans f4).trans f5
    have s5 := fr f15
    refine ⟨_, rfl, g, CG, dx5, _, _, rfl, hg5, T.c_Going, T.nG_trace, lg_trace, A.tr, _, rfl, .inl ⟨SqL.of hus, fun t gt => ?_⟩⟩
    have s6 : Same H5 (upd H5 t (.tup us)) := (Same.refl H5).new gt
    have ht6 : upd H5 t (.tup us) t = some (.tup us) := upd_same
    generalize upd H5 t (.tup us) = H6 at s6 ht6 ⊢
    refine ⟨_, rfl, g, CG, dx5, _, _, rfl, s6 _ _ hg5, T.c_Going, T.nG_fault, lg_fault, (by show 2 ≤ sizeLine; decide), fun p gp => ?_⟩
    have s7 : Same H5 (upd H6 p (.tup [.ref t, v5])) := s6.new gp
    exact q p t us v5 S' _ (s5.trans s7) upd_same (upd_keep ht6 gp) (Paired.mapP hup fun _ _ z => z.mono s7.tups) (hft5.mono s7.tups) hst hend
set_option genInjectivity false in
structure NtOf (ps : List Pt) (N : Nt) : Prop where
  eps : N.ps = ps
  mkd : ∀ x k, N.km x = some k → (x, k) ∈ mlsOf (plsOf ps)
theorem pw_fs (rd md : Addr) : putF "makers" (.ref md) (putF "rows" (.ref rd) []) = wF rd md := by kernel_rfl
noncomputable def spPwInit (CP : Addr) : Sp := fun vs H Q _ => ∃ (w a dx : Addr) (ps : List Pt) (N : Nt), vs = [.ref w, .ref a] ∧ H w = some (.ins CP dx []) ∧ PartsF H a ps ∧ PsFit ps ∧ NetOk (plsOf ps) ∧ NtOf ps N ∧ ∀ H', KpG w H H' → WalkAt CP H' w N → Q .non H'
theorem ok_PwInit (T : Tc K mg CP CG) : ICl P w K mg base 5 "PartsWalk" CP ["self", "parts"] (spPwInit CP) := by
  have C_makers := ok_makers (P := P) (w := w) (base := base) T.toTxt
  refine ICl.of T.i_PartsWalk T.g_PartsWalk sc_PartsWalk___init__ (fun vs H Q E h => ?_) (fun _ _ _ _ _ _ us hl => len2 us hl (fun _ _ => rfl)) (fun fa cdv A outer s H vs Q E hr h => ?_)
  · obtain ⟨w, a, dx, ps, N, rfl, _⟩ := h
    rfl
  · obtain ⟨w, a, dx, ps, N, rfl, hw, hpf, hfit, hnet, hNt, q⟩ := h
    obtain ⟨o, vs, ha, ho, hps⟩ := id hpf
    have hhi := hfit.hi
    refine ⟨_, (pss_cons (ps_fld (pv 0) (pe_callTy (call_dictT rfl) (by rfl) T.n_dict boot_dict (pa_cons (pv 1) pa_nil)) rfl)
      (pss_one (ps_fld (pv 0) (pe_fn C_makers hr (by rfl) (pa_cons (pv 1) pa_nil)) rfl))), ?_⟩
    obtain ⟨qs, g1, g2, g3⟩ := parts_pairs (K := K) hps
    have hql : qs.length = ps.length := by
      have := congrArg List.length g2
      simpa using this
    refine ⟨_, rfl, a, o, vs, qs, rfl, ha, ho, g1, (by omega), fun rd grd => ?_⟩
    have nrd : w ≠ rd := ne_of_none hw grd
    refine ⟨_, rfl, w, CP, dx, _, rfl, by rw [upd_ne nrd]; exact hw, T.c_PartsWalk, T.nP_rows, (by show 0 < 1000; decide), ?_⟩
    have k1 : KpG w H (upd (upd H rd (.dK (foldP qs []))) w (.ins CP dx (putF "rows" (.ref rd) []))) := ((KpG.refl w H).new grd).self
    have hw1 : upd (upd H rd (.dK (foldP qs []))) w (.ins CP dx (putF "rows" (.ref rd) [])) w = some (.ins CP dx (putF "rows" (.ref rd) [])) := upd_same
    have hr1 : upd (upd H rd (.dK (foldP qs []))) w (.ins CP dx (putF "rows" (.ref rd) [])) rd = some (.dK (foldP qs [])) := by rw [upd_ne nrd.symm, upd_same]
    generalize upd (upd H rd (.dK (foldP qs []))) w (.ins CP dx (putF "rows" (.ref rd) [])) = H1 at k1 hw1 hr1 ⊢
    have T1 : Tups H H1 := fun b xs e => k1 b _ e (ne_of e hw (by intro z; cases z))
    have ha1 : H1 a = some (.frz o (.tup vs)) := k1 _ _ ha (ne_of ha hw (by intro z; cases z))
    have hpf1 : PartsF H1 a ps := ⟨o, vs, ha1, ho, Paired.mapP hps fun _ _ z => z.mono T1⟩
    refine ⟨_, rfl, a, ps, rfl, hpf1, hfit, hnet, fun md kvs H2 s2 hmd hMv => ?_⟩
    have hw2 := s2 _ _ hw1
    refine ⟨_, rfl, w, CP, dx, _, rfl, hw2, T.c_PartsWalk, T.nP_makers, lt1000 (putF_le _ _ _ 0 (Nat.le_refl _)) (by decide), ?_⟩
    rw [pw_fs]
    have nmd : md ≠ w := ne_of hmd hw2 (by intro z; cases z)
    have T3 : Tups H (upd H2 w (.ins CP dx (wF rd md))) := (T1.trans s2.tups).trans fun b xs e => by rw [upd_ne (ne_of e hw2 (by intro z; cases z))]; exact e
    refine q _ (fun b u e hb => by rw [upd_ne hb]; exact s2 _ _ (k1 b u e hb)) ⟨dx, rd, md, foldP qs [], kvs, upd_same, by rw [upd_ne nrd.symm]; exact s2 _ _ hr1, by rw [upd_ne nmd]; exact hmd, fun n rs hm => ?_, fun p x k hk => ?_⟩
    · rw [hNt.eps] at hm
      obtain ⟨u, ws, k1', k2, k3⟩ := g3 n rs hm
      refine ⟨u, ws, foldP_get qs [] n (.ref u) (by rw [g2]; exact hfit.nd) (.inl k1'), T3 _ _ k2, k3.mono T3⟩
    · obtain ⟨kv, ⟨_, t, e1, e2⟩, e3⟩ := val_of (F := MvAt H2) (fun _ _ h => h.1) hMv hnet.mkNodup (hNt.mkd (p, x) k hk)
      rw [e1] at e3
      refine ⟨t, e3, ?_⟩
      rw [upd_ne (ne_of e2 hw2 (by intro z; cases z))]
      exact e2
noncomputable def spRun (CP CG : Addr) : Sp := fun vs H Q _ => ∃ (a n : Addr) (ps : List Pt) (N : Nt) (ns : List Int) (root : Str), vs = [.ref a, .str root, .ref n] ∧ PartsF H a ps ∧ PsFit ps ∧ NetOk (plsOf ps) ∧ NtOf ps N ∧ NtOk N ∧ H n = some (.tup (ns.map V.int)) ∧ root ∈ N.ps.map (·.1) ∧
  ∀ (p t : Addr) (vs : List V) (v : V) (S' : GS) (H' : Hp), Same H H' → H' p = some (.tup [.ref t, v]) → H' t = some (.tup vs) → Paired (DdAt H') vs S'.tr → FtAt H' v S'.ft → Steps N ns (beginS N s0 root) S' → (S'.wt = [] ∨ S'.ft ≠ none) → Q (.ref p) H'
theorem ok_run (T : Tc K mg CP CG) : L2.Cl P w K mg base 10 "run" ["parts", "root", "numbers"] (spRun CP CG) := by
  have C_PartsWalk := ok_PwInit (P := P) (w := w) (base := base) T
  have C_go := ok_go (P := P) (w := w) (base := base) T
  refine Cl.of T.d_run sc_run (fun vs H Q E h => ?_) (fun _ _ _ _ _ _ us hl => len3 us hl (fun _ _ _ => rfl)) (fun fa cdv A outer s H vs Q E hr h => ?_)
  · obtain ⟨a, n, ps, N, ns, root, rfl, _⟩ := h
    rfl
  · obtain ⟨a, n, ps, N, ns, root, rfl, hpf, hfit, hnet, hNt, hN, hn, hroot, q⟩ := h
    refine ⟨_, (pss_one (ps_ret (pe_m C_go T.c_PartsWalk hr (pe_mk C_PartsWalk hr (by rfl) (pa_cons (pv 0) pa_nil)) (pa_cons (pv 1) (pa_cons (pv 2) pa_nil))))), ?_⟩
    refine ⟨_, rfl, fun w dx nw ndx ne => ?_⟩
    have sA : Same H (upd (upd H dx (.own w)) w (.ins CP dx [])) := fun b o e => by
      rw [upd_ne (ne_of_none e nw), upd_ne (ne_of_none e ndx)]
      exact e
    have hwA : upd (upd H dx (.own w)) w (.ins CP dx []) w = some (.ins CP dx []) := upd_same
    generalize upd (upd H dx (.own w)) w (.ins CP dx []) = HA at sA hwA ⊢
    refine ⟨w, a, dx, ps, N, rfl, hwA, sA.partsF hpf, hfit, hnet, hNt, fun H1 k1 hW1 => ⟨rfl, ?_⟩⟩
    have s1 : Same H H1 := fun b o e => k1 b o (sA b o e) (ne_of_none e nw)
    obtain ⟨dw, rd, md, kvr, kvm, h1, _⟩ := hW1.ex
    exact ⟨w, dw, _, rfl, h1, lw_go, _, rfl, _, rfl, w, n, N, ns, root, rfl, hW1, s1 _ _ hn, hN, hroot, fun p t vs v S' H' s' hp ht hvs hf hst hend => q p t vs v S' H' (s1.trans s') hp ht hvs hf hst hend⟩
noncomputable def spCell (K : PySem.W.Frag) : Sp := fun vs H Q _ => ∃ (a : Addr) (ns : List Int) (k : Int), vs = [.ref a, .int k] ∧ SqL K H a (ns.map V.int) ∧ 0 ≤ k ∧ ∀ c : Int, Q (.int c) H
theorem ok_cell (T : Txt K mg) : L2.Cl P w K mg base 1 "_law_cell_at" ["_law_script", "_law_k"] (spCell K) := by
  refine Cl.of T.d_law_cell_at sc_law_cell_at (fun vs H Q E h => ?_) (fun _ _ _ _ _ _ us hl => len2 us hl (fun _ _ => rfl)) (fun f cdv A outer s H vs Q E hr h => ?_)
  · obtain ⟨a, ns, k, rfl, _⟩ := h
    rfl
  · obtain ⟨a, ns, k, rfl, hS, hk, q⟩ := h
    refine ⟨_, (pss_cons (ps_if (pt_cmpR op_lt (pv 1) (pe_callB call_len_seq (by rfl) T.n_len PySem.boot_len (pa_cons (pv 0) pa_nil)) (nomark _))
        (pss_one (ps_ret (pe_ix ix_list (pv 0) (pv 1) (fun _ _ => rfl)))) pss_nil)
      (pss_one (ps_ret pe_int))), ?_⟩
    refine ⟨_, rfl, _, rfl, a, _, rfl, .inl hS, _, _, rfl, rfl, _, rfl, ?_⟩
    refine ite2 (fun hlt => ?_) (fun hlt => ?_)
    · have hlt' : k < (ns.length : Int) := by simpa using hlt
      refine ⟨_, rfl, _, rfl, a, _, _, _, rfl, rfl, hS, atI_map V.int ns 0 hk hlt', ?_⟩
      exact q _
    · exact q 0
noncomputable def oName (part : Str) (n : Nat) : Str := part ++ Str.ofString (toString ((n : Nat) : Int))
set_option genInjectivity false in
structure LS where
  rows : List Rw
  due : List Dd
  own : Option (Str × Nat)
  val : Int
  tk : Nat
noncomputable def rowL (part : Str) (L : LS) (c : Int) : Rw := if c % 2 = 0 then .take (oName part L.rows.length) else match L.own with
  | none => .say [(1, .num (c / 2 % 10 ^ 60))] none
  | some q => .say [(1, .nam q.1)] none
noncomputable def stepL (part : Str) (ns : List Int) (L : LS) (c : Int) : LS := if c % 2 = 0 then
    ⟨L.rows ++ [.take (oName part L.rows.length)], L.due ++ [(("take" : Str), ns.getD L.tk 0, part, L.rows.length)], some (oName part L.rows.length, L.rows.length), ns.getD L.tk 0, L.tk + 1⟩
  else match L.own with
  | none => { L with rows := L.rows ++ [.say [(1, .num (c / 2 % 10 ^ 60))] none], due := L.due ++ [(("say" : Str), c / 2 % 10 ^ 60, part, L.rows.length)] }
  | some q => { L with rows := L.rows ++ [.say [(1, .nam q.1)] none], due := L.due ++ [(("say" : Str), L.val, part, L.rows.length)] }
theorem step_even {part : Str} {ns : List Int} {L : LS} {c : Int} (h : c % 2 = 0) : stepL part ns L c = ⟨L.rows ++ [.take (oName part L.rows.length)], L.due ++ [(("take" : Str), ns.getD L.tk 0, part, L.rows.length)], some (oName part L.rows.length, L.rows.length), ns.getD L.tk 0, L.tk + 1⟩ := by
  unfold stepL; rw [if_pos h]
theorem step_num {part : Str} {ns : List Int} {L : LS} {c : Int} (h : ¬ c % 2 = 0) (k : L.own = none) : stepL part ns L c = { L with rows := L.rows ++ [.say [(1, .num (c / 2 % 10 ^ 60))] none], due := L.due ++ [(("say" : Str), c / 2 % 10 ^ 60, part, L.rows.length)] } := by
  unfold stepL; rw [if_neg h, k]
theorem step_nam {part : Str} {ns : List Int} {L : LS} {c : Int} {q : Str × Nat} (h : ¬ c % 2 = 0) (k : L.own = some q) : stepL part ns L c = { L with rows := L.rows ++ [.say [(1, .nam q.1)] none], due := L.due ++ [(("say" : Str), L.val, part, L.rows.length)] } := by
  unfold stepL; rw [if_neg h, k]
theorem row_even {part : Str} {L : LS} {c : Int} (h : c % 2 = 0) : rowL part L c = .take (oName part L.rows.length) := by unfold rowL; rw [if_pos h]
theorem row_num {part : Str} {L : LS} {c : Int} (h : ¬ c % 2 = 0) (k : L.own = none) : rowL part L c = .say [(1, .num (c / 2 % 10 ^ 60))] none := by unfold rowL; rw [if_neg h, k]
theorem row_nam {part : Str} {L : LS} {c : Int} {q : Str × Nat} (h : ¬ c % 2 = 0) (k : L.own = some q) : rowL part L c = .say [(1, .nam q.1)] none := by unfold rowL; rw [if_neg h, k]
theorem step_rows (part : Str) (ns : List Int) (L : LS) (c : Int) : (stepL part ns L c).rows = L.rows ++ [rowL part L c] := by
  by_cases h : c % 2 = 0
  · rw [step_even h, row_even h]
  · cases k : L.own with
    | none => rw [step_num h k, row_num h k]
    | some q => rw [step_nam h k, row_nam h k]
theorem fold_rows (part : Str) (ns : List Int) : ∀ (cs : List Int) (L : LS), ∃ rs, (cs.foldl (stepL part ns) L).rows = L.rows ++ rs
  | [], L => ⟨[], by simp⟩
  | c :: cs, L => by
    obtain ⟨rs, e⟩ := fold_rows part ns cs (stepL part ns L c)
    exact ⟨rowL part L c :: rs, by rw [List.foldl_cons, e, step_rows]; simp⟩
noncomputable abbrev mlR (part : Str) (rs : List Rw) : List (Kk × (Str × Nat)) := mlsOf (rowsPl part rs)
theorem mlR_snoc (part : Str) (rs : List Rw) (rw : Rw) : mlR part (rs ++ [rw]) = mlR part rs ++ mlsOf [(part, rs.length, rw)] := by
  show mlsOf (rowsPl part (rs ++ [rw])) = _
  rw [rowsPl_snoc, mls_app]
theorem mlR_app (part : Str) : ∀ (us rs : List Rw), ∃ m, mlR part (rs ++ us) = mlR part rs ++ m
  | [], rs => ⟨[], by simp⟩
  | u :: us, rs => by
    obtain ⟨m, e⟩ := mlR_app part us (rs ++ [u])
    refine ⟨mlsOf [(part, rs.length, u)] ++ m, ?_⟩
    rw [List.append_cons, e, mlR_snoc, List.append_assoc]
theorem mls_take (part o : Str) (j : Nat) : mlsOf [(part, j, Rw.take o)] = [((part, o), (part, j))] := rfl
theorem mls_say (part : Str) (j : Nat) (ts : List (Int × Th)) (wh : Option Str) : mlsOf [(part, j, Rw.say ts wh)] = [] := rfl
theorem num36 : ∀ i : Nat, i < 36 → (∀ c ∈ (Str.ofString (toString (i : Int))).cps.toList, isSg c = true) ∧ (Str.ofString (toString (i : Int))).cps.toList.length ≤ 2 := by decide +kernel
theorem num36_inj : ∀ i : Nat, i < 36 → ∀ j : Nat, j < 36 → (Str.ofString (toString (i : Int))).cps.toList = (Str.ofString (toString (j : Int))).cps.toList → i = j := by decide +kernel
theorem str_app_inj {a b c : Str} (h : a ++ b = a ++ c) : b.cps.toList = c.cps.toList := by
  have h' : (a.cps ++ b.cps) = (a.cps ++ c.cps) := congrArg Str.cps h
  have h2 := congrArg Array.toList h'
  rw [Array.toList_append, Array.toList_append] at h2
  exact List.append_cancel_left h2
theorem oName_inj {part : Str} {i j : Nat} (hi : i < 36) (hj : j < 36) (h : oName part i = oName part j) : i = j := num36_inj i hi j hj (str_app_inj h)
inductive RowG (part : Str) (m : List (Kk × (Str × Nat))) : Rw → Prop where
  | take {o : Str} {j : Nat} : ((part, o), (part, j)) ∈ m → RowG part m (.take o)
  | num {n : Int} : RowG part m (.say [(1, .num n)] none)
  | nam {o : Str} {j : Nat} : ((part, o), (part, j)) ∈ m → RowG part m (.say [(1, .nam o)] none)
theorem RowG.mono {part : Str} {m m' : List (Kk × (Str × Nat))} {rw : Rw} (h : RowG part m rw) (k : ∀ y ∈ m, y ∈ m') : RowG part m' rw := by
  cases h with
  | take h => exact .take (k _ h)
  | num => exact .num
  | nam h => exact .nam (k _ h)
set_option genInjectivity false in
structure LOk (part : Str) (L : LS) : Prop where
  dl : L.due.length = L.rows.length
  kn : ((mlR part L.rows).map (·.1)).Nodup
  kk : ∀ y ∈ mlR part L.rows, ∃ j, j < L.rows.length ∧ y = ((part, oName part j), (part, j))
  own : ∀ q, L.own = some q → q.2 < L.rows.length ∧ q.1 = oName part q.2 ∧ ((part, q.1), (part, q.2)) ∈ mlR part L.rows
  rw : ∀ r ∈ L.rows, RowG part (mlR part L.rows) r
theorem LOk.step {part : Str} {ns : List Int} {L : LS} (h : LOk part L) (hl : L.rows.length < 36) (c : Int) : LOk part (stepL part ns L c) := by
  by_cases hc : c % 2 = 0
  · rw [step_even hc]
    have hm : mlR part (L.rows ++ [Rw.take (oName part L.rows.length)]) = mlR part L.rows ++ [((part, oName part L.rows.length), (part, L.rows.length))] := by rw [mlR_snoc, mls_take]
    refine ⟨by simp [h.dl], ?_, ?_, ?_, ?_⟩
    · show ((mlR part (L.rows ++ [Rw.take (oName part L.rows.length)])).map (·.1)).Nodup
      rw [hm, List.map_append]
      refine List.nodup_append.mpr ⟨h.kn, by simp, fun a ha b hb => ?_⟩
      have hb' : b = (part, oName part L.rows.length) := by simpa using hb
      rw [hb']
      intro z
      obtain ⟨y, hy, ey⟩ := List.mem_map.mp ha
      obtain ⟨j, hj, e⟩ := h.kk y hy
      rw [e] at ey
      have ez : (part, oName part j) = (part, oName part L.rows.length) := ey.trans z
      have := oName_inj (by omega) hl (Prod.mk.inj ez).2
      omega
    · show ∀ y ∈ mlR part (L.rows ++ [Rw.take (oName part L.rows.length)]), ∃ j, j < (L.rows ++ [Rw.take (oName part L.rows.length)]).length ∧ _
      rw [hm]
      intro y hy
      rw [List.length_append]
      rcases List.mem_append.mp hy with z | z
      · obtain ⟨j, hj, e⟩ := h.kk y z
        exact ⟨j, by omega, e⟩
      · exact ⟨L.rows.length, by simp, List.mem_singleton.mp z⟩
    · intro q hq
      have hq' : q = (oName part L.rows.length, L.rows.length) := (Option.some.inj hq).symm
      subst hq'
      refine ⟨by simp, rfl, ?_⟩
      show _ ∈ mlR part (L.rows ++ [Rw.take (oName part L.rows.length)])
      rw [hm]
      simp
    · show ∀ r ∈ L.rows ++ [Rw.take (oName part L.rows.length)], RowG part (mlR part (L.rows ++ [Rw.take (oName part L.rows.length)])) r
      rw [hm]
      intro r hr
      rcases List.mem_append.mp hr with z | z
      · exact (h.rw r z).mono fun y hy => List.mem_append_left _ hy
      · rw [List.mem_singleton.mp z]
        exact .take (j := L.rows.length) (by simp)
  · have key : ∀ (ts : List (Int × Th)) (d : Dd), RowG part (mlR part L.rows) (.say ts none) → LOk part { L with rows := L.rows ++ [Rw.say ts none], due := L.due ++ [d] } := fun ts d hg => by
      have hm : mlR part (L.rows ++ [Rw.say ts none]) = mlR part L.rows := by rw [mlR_snoc, mls_say, List.append_nil]
      refine ⟨by simp [h.dl], ?_, ?_, ?_, ?_⟩
      · show ((mlR part (L.rows ++ [Rw.say ts none])).map (·.1)).Nodup
        rw [hm]; exact h.kn
      · show ∀ y ∈ mlR part (L.rows ++ [Rw.say ts none]), ∃ j, j < (L.rows ++ [Rw.say ts none]).length ∧ _
        rw [hm, List.length_append]
        intro y hy
        obtain ⟨j, hj, e⟩ := h.kk y hy
        exact ⟨j, by omega, e⟩
      · intro q hq
        obtain ⟨h1, h2, h3⟩ := h.own q hq
        refine ⟨by show q.2 < (L.rows ++ [Rw.say ts none]).length; rw [List.length_append]; omega, h2, ?_⟩
        show _ ∈ mlR part (L.rows ++ [Rw.say ts none])
        rw [hm]; exact h3
      · show ∀ r ∈ L.rows ++ [Rw.say ts none], RowG part (mlR part (L.rows ++ [Rw.say ts none])) r
        rw [hm]
        intro r hr
        rcases List.mem_append.mp hr with z | z
        · exact h.rw r z
        · rw [List.mem_singleton.mp z]; exact hg
    cases k : L.own with
    | none => rw [step_num hc k]; exact key _ _ .num
    | some q => rw [step_nam hc k]; exact key _ _ (.nam (h.own q k).2.2)
theorem LOk.fold {part : Str} {ns : List Int} : ∀ {cs : List Int} {L : LS}, LOk part L → L.rows.length + cs.length ≤ 36 → LOk part (cs.foldl (stepL part ns) L)
  | [], _, h, _ => h
  | c :: cs, L, h, hl => by
    rw [List.length_cons] at hl
    rw [List.foldl_cons]
    exact LOk.fold (h.step (by omega) c) (by rw [step_rows, List.length_append]; simp; omega)
noncomputable def l0 : LS := ⟨[], [], none, 0, 0⟩
theorem l0_ok (part : Str) : LOk part l0 := by
  refine ⟨rfl, List.nodup_nil, ?_, ?_, ?_⟩
  · intro y hy
    have hy' : y ∈ ([] : List (Kk × (Str × Nat))) := hy
    simp at hy'
  · intro q hq
    cases hq
  · intro r hr
    have hr' : r ∈ ([] : List Rw) := hr
    simp at hr'
noncomputable def remW (part : Str) (ns : List Int) : LS → List Int → List Wx
  | _, [] => []
  | L, c :: cs => (part, L.rows.length, rowL part L c) :: remW part ns (stepL part ns L c) cs
theorem idx_snoc (p : Str) (rs : List Rw) (r : Rw) : idxRows p (rs ++ [r]) = idxRows p rs ++ [(p, rs.length, r)] := by
  unfold idxRows
  rw [List.mapIdx_concat]
theorem idx_rem (part : Str) (ns : List Int) : ∀ (cs : List Int) (L : LS), idxRows part (cs.foldl (stepL part ns) L).rows = idxRows part L.rows ++ remW part ns L cs
  | [], L => by simp [remW]
  | c :: cs, L => by
    rw [List.foldl_cons, idx_rem part ns cs, step_rows, idx_snoc]
    simp [remW]
set_option genInjectivity false in
structure Sim (N : Nt) (part : Str) (ns : List Int) (S : GS) (L : LS) : Prop where
  tr : S.tr = L.due
  ft : S.ft = none
  tk : S.tk = min L.tk ns.length
  own : ∀ q, L.own = some q → N.km (part, q.1) = some (part, q.2) ∧ valV S.gv (kN (part, q.2)) = some (.int L.val)
theorem Sim.step {N : Nt} {part : Str} {ns : List Int} {S : GS} {L : LS} {W : List Wx} {c : Int} (h : Sim N part ns S L) (hk : c % 2 = 0 → N.km (part, oName part L.rows.length) = some (part, L.rows.length)) : Sim N part ns (rowS N ns { S with wt := W } part L.rows.length (rowL part L c)) (stepL part ns L c) ∧ (rowS N ns { S with wt := W } part L.rows.length (rowL part L c)).wt = W := by
  by_cases hc : c % 2 = 0
  · rw [step_even hc, row_even hc]
    have hkm := hk hc
    have e : rowS N ns { S with wt := W } part L.rows.length (.take (oName part L.rows.length)) = { S with wt := W, tk := if S.tk = ns.length then S.tk else S.tk + 1, gv := putK S.gv (kN (part, L.rows.length)) (.int (ns.getD S.tk 0)), tr := S.tr ++ [(("take" : Str), ns.getD S.tk 0, part, L.rows.length)] } := by
      rw [rowS_none rfl rfl]
      show workS N ns { S with wt := W } part L.rows.length (.take (oName part L.rows.length)) = _
      simp only [workS, hkm]
    have hv : ns.getD S.tk 0 = ns.getD L.tk 0 := by
      rw [h.tk]
      by_cases hle : L.tk ≤ ns.length
      · rw [Nat.min_eq_left hle]
      · rw [Nat.min_eq_right (by omega), List.getD_eq_getElem?_getD, List.getD_eq_getElem?_getD, List.getElem?_eq_none (Nat.le_refl _), List.getElem?_eq_none (by omega)]
    rw [e]
    refine ⟨⟨?_, h.ft, ?_, fun q hq => ?_⟩, rfl⟩
    · show S.tr ++ [_] = L.due ++ [_]
      rw [h.tr, hv]
    · show (if S.tk = ns.length then S.tk else S.tk + 1) = min (L.tk + 1) ns.length
      have := h.tk
      split <;> omega
    · have hq' : q = (oName part L.rows.length, L.rows.length) := (Option.some.inj hq).symm
      subst hq'
      refine ⟨hkm, ?_⟩
      show valV (putK S.gv (kN (part, L.rows.length)) (.int (ns.getD S.tk 0))) (kN (part, L.rows.length)) = some (.int (ns.getD L.tk 0))
      rw [valV_put, if_pos rfl, hv]
  · cases k : L.own with
    | none =>
      rw [step_num hc k, row_num hc k]
      have e : rowS N ns { S with wt := W } part L.rows.length (.say [(1, .num (c / 2 % 10 ^ 60))] none) = { S with wt := W, tr := S.tr ++ [(("say" : Str), c / 2 % 10 ^ 60, part, L.rows.length)] } := by
        rw [rowS_none rfl rfl]
        show workS N ns { S with wt := W } part L.rows.length (.say [(1, .num (c / 2 % 10 ^ 60))] none) = _
        have hs : sumV N S.gv part [(1, .num (c / 2 % 10 ^ 60))] = c / 2 % 10 ^ 60 := by
          show 0 + 1 * (c / 2 % 10 ^ 60) = _
          omega
        simp only [workS, hs]
      rw [e]
      refine ⟨⟨?_, h.ft, h.tk, fun q hq => ?_⟩, rfl⟩
      · show S.tr ++ [_] = L.due ++ [_]
        rw [h.tr]
      · exact h.own q hq
    | some q =>
      rw [step_nam hc k, row_nam hc k]
      obtain ⟨h1, h2⟩ := h.own q k
      have hl : lk N S.gv part q.1 = some (.int L.val) := by unfold lk; rw [h1]; exact h2
      have he : earlyR N S.gv part (.say [(1, .nam q.1)] none) = none := by
        show (([(1, q.1)] : List (Int × Str)).find? fun d => !(lk N S.gv part d.2).isSome).map (·.1) = none
        rw [List.find?_cons_of_neg (by show ¬ (!(lk N S.gv part q.1).isSome) = true; rw [hl]; simp)]
        rfl
      have e : rowS N ns { S with wt := W } part L.rows.length (.say [(1, .nam q.1)] none) = { S with wt := W, tr := S.tr ++ [(("say" : Str), L.val, part, L.rows.length)] } := by
        rw [rowS_none (S := { S with wt := W }) rfl he]
        show workS N ns { S with wt := W } part L.rows.length (.say [(1, .nam q.1)] none) = _
        have hs : sumV N S.gv part [(1, .nam q.1)] = L.val := by
          show 0 + 1 * ivl (lk N S.gv part q.1) = _
          rw [hl]
          show 0 + 1 * L.val = _
          omega
        simp only [workS, hs]
      rw [e]
      refine ⟨⟨?_, h.ft, h.tk, fun q' hq => ?_⟩, rfl⟩
      · show S.tr ++ [_] = L.due ++ [_]
        rw [h.tr]
      · exact h.own q' hq
theorem steps_next {N : Nt} {ns : List Int} {S S' : GS} {W : List Wx} {p : Str} {j : Nat} {rw : Rw} (h : Steps N ns S S') (hend : S'.wt = [] ∨ S'.ft ≠ none) (hf : S.ft = none) (hw : S.wt = W ++ [(p, j, rw)]) : Steps N ns (rowS N ns { S with wt := W } p j rw) S' := by
  cases h with
  | refl =>
    rcases hend with z | z
    · rw [hw] at z; simp at z
    · exact absurd hf z
  | step a b c =>
    rw [hw] at b
    have := List.append_inj' b rfl
    obtain ⟨e1, e2⟩ := this
    have e3 := List.head_eq_of_cons_eq e2
    cases e3
    subst e1
    exact c
theorem sim {N : Nt} {part : Str} {ns : List Int} : ∀ (cs : List Int) (L : LS) (S S' : GS), (∀ o j, ((part, o), (part, j)) ∈ mlR part (cs.foldl (stepL part ns) L).rows → N.km (part, o) = some (part, j)) → Sim N part ns S L → S.wt = (remW part ns L cs).reverse → Steps N ns S S' → (S'.wt = [] ∨ S'.ft ≠ none) → S'.tr = (cs.foldl (stepL part ns) L).due ∧ S'.ft = none
  | [], L, S, S', _, h, hw, hst, hend => by
    cases hst with
    | refl => exact ⟨h.tr, h.ft⟩
    | step a b c => rw [hw] at b; simp [remW] at b
  | c :: cs, L, S, S', hk, h, hw, hst, hend => by
    rw [List.foldl_cons] at hk ⊢
    have hw' : S.wt = (remW part ns (stepL part ns L c) cs).reverse ++ [(part, L.rows.length, rowL part L c)] := by
      rw [hw]
      show ((part, L.rows.length, rowL part L c) :: remW part ns (stepL part ns L c) cs).reverse = _
      rw [List.reverse_cons]
    have hnx := steps_next hst hend h.ft hw'
    have hkm : c % 2 = 0 → N.km (part, oName part L.rows.length) = some (part, L.rows.length) := fun hc => by
      refine hk _ _ ?_
      obtain ⟨rs, e⟩ := fold_rows part ns cs (stepL part ns L c)
      rw [e]
      obtain ⟨m, em⟩ := mlR_app part rs (stepL part ns L c).rows
      rw [em, step_rows, row_even hc, mlR_snoc, mls_take]
      simp
    obtain ⟨h1, h2⟩ := h.step (W := (remW part ns (stepL part ns L c) cs).reverse) hkm
    exact sim cs (stepL part ns L c) _ S' hk h1 h2 hnx hend
noncomputable abbrev letsT : Str := "abcdefghijklmnopqrstuvwxyz"
noncomputable abbrev sgnsT : Str := "abcdefghijklmnopqrstuvwxyz0123456789"
theorem lets_let : ∀ c ∈ letsT.cps.toList, isLet c = true := by decide +kernel
theorem sgns_sg : ∀ c ∈ sgnsT.cps.toList, isSg c = true := by decide +kernel
theorem sgns_eq : letsT ++ "0123456789" = sgnsT := by decide +kernel
noncomputable def spWord : Sp := fun vs H Q _ => ∃ c : Int, vs = [.int c] ∧ ∀ x : Str, NameOk x → x.length ≤ 4 → Q (.str x) H
theorem ok_word (T : Txt K mg) : L2.Cl P w K mg base 1 "_law_word" ["_law_cell"] spWord := by
  refine Cl.of T.d_law_word sc_law_word (fun vs H Q E h => ?_) (fun _ _ _ _ _ _ us hl => len1 us hl (fun _ => rfl)) (fun fa cdv A outer s H vs Q E hr h => ?_)
  · obtain ⟨c, rfl, _⟩ := h
    rfl
  · obtain ⟨c, rfl, q⟩ := h
    have hsz : sizeLine = 16777216 := sizeLine_eq
    obtain ⟨c0, hc0, ec0⟩ := atI_mem letsT.cps.toList (i := c % 26) (by omega) (by show c % 26 < ((26 : Nat) : Int); omega)
    refine ⟨_, (pss_cons (ps_set (i := 1) sc_law_word.nd rfl (Or.inl rfl) pe_str)
      (pss_cons (ps_set (i := 2) sc_law_word.nd rfl (Or.inl rfl) (pe_ix ix_str (pv 1) (pe_op op_mod (pv 0) pe_int) (fun _ _ => rfl)))
      (pss_cons (ps_for PassesOwn.never rfl (pi_range1 (by rfl) T.n_range (pa_cons (pe_op op_mod (pe_op op_fdiv (pv 0) pe_int) pe_int) pa_nil)) (pg_name (i := 3) sc_law_word.nd rfl (Or.inl rfl))
        (pss_one (ps_set (i := 2) sc_law_word.nd rfl (Or.inl rfl) (pe_op op_add_str (pv 2) (pe_ix ix_str (pe_op op_add_str (pv 1) pe_str) (pe_op op_mod (pe_op op_fdiv (pv 0) (pe_op op_add pe_int (pe_op op_mul pe_int (pv 3)))) pe_int) (fun _ _ => rfl))))))
      (pss_one (ps_ret (pv 2)))))), ?_⟩
    refine ⟨_, rfl, _, rfl, _, _, rfl, rfl, (by show (0 : Int) < 26; decide), letsT, _, c0, rfl, rfl, (by show 26 ≤ sizeLine; decide), ec0, ?_⟩
    refine ⟨_, rfl, _, _, rfl, rfl, ⟨by decide, by decide⟩, _, _, rfl, rfl, (by show (0 : Int) < 4; decide), ?_⟩
    refine ⟨_, rfl, (by omega), (by omega), for_range (fun i σ H2 => ∃ (x : Str) (v3 : Option V), σ = [some (.int c), some (.str letsT), some (.str x), v3] ∧ H2 = H ∧ NameOk x ∧ x.length = i + 1)
      ⟨⟨#[c0]⟩, none, rfl, rfl, nameOk_one (lets_let c0 hc0), rfl⟩ ?_ ?_⟩
    · rintro i σ H2 hi ⟨x, v3, rfl, rfl, hx, hxl⟩
      rw [Int.zero_add]
      have hi3 : (i : Int) < 3 := by omega
      obtain ⟨c1, hc1, ec1⟩ := atI_mem sgnsT.cps.toList (i := c / (104 + 37 * (i : Int)) % 36) (by omega) (by show c / (104 + 37 * (i : Int)) % 36 < ((36 : Nat) : Int); omega)
      refine ⟨_, rfl, _, rfl, _, _, rfl, rfl, (by show 26 + 10 ≤ sizeLine; decide), _, rfl, _, rfl, _, _, rfl, rfl, .inl ⟨by decide, by decide⟩, _, _, rfl, rfl, _, _, rfl, rfl, ⟨by omega, by omega⟩, _, _, rfl, rfl, (by show (0 : Int) < 36; decide), ?_⟩
      obtain ⟨hn1, hn2⟩ := nameOk_snoc (c := c1) hx (sgns_sg c1 hc1) (by omega)
      refine ⟨sgnsT, _, c1, by rw [← sgns_eq], rfl, (by show 36 ≤ sizeLine; decide), ec1, _, _, rfl, rfl, (by show x.length + 1 ≤ sizeLine; omega), ?_⟩
      exact ⟨_, _, rfl, rfl, hn1, by rw [hn2, hxl]⟩
    · rintro σ H2 ⟨x, v3, rfl, rfl, hx, hxl⟩
      exact ⟨_, rfl, q x hx (by omega)⟩
noncomputable def spNumber : Sp := fun vs H Q _ => ∃ c : Int, vs = [.int c] ∧ ∀ i : Int, Q (.int i) H
theorem ok_number (T : Txt K mg) : L2.Cl P w K mg base 1 "_law_number" ["_law_cell"] spNumber := by
  refine Cl.of T.d_law_number sc_law_number (fun vs H Q E h => ?_) (fun _ _ _ _ _ _ us hl => len1 us hl (fun _ => rfl)) (fun fa cdv A outer s H vs Q E hr h => ?_)
  · obtain ⟨c, rfl, _⟩ := h
    rfl
  · obtain ⟨c, rfl, q⟩ := h
    refine ⟨_, (pss_cons (ps_if (pt_cmpR op_eq (pe_op op_mod (pv 0) pe_int) pe_int (nomark _))
        (pss_one (ps_ret (pe_op op_sub (pe_op op_mod (pe_op op_fdiv (pv 0) pe_int) pe_int) pe_int))) pss_nil)
      (pss_one (ps_ret (pe_op op_add (pe_op op_sub (pe_op op_mod (pe_op op_fdiv (pv 0) pe_int) (pe_op op_sub (pe_op op_mul pe_int (pe_op op_pow pe_int pe_int)) pe_int)) (pe_op op_pow pe_int pe_int)) pe_int)))), ?_⟩
    refine ⟨_, rfl, _, _, rfl, rfl, (by show (0 : Int) < 3; decide), rfl, _, rfl, ite2 (fun _ => ?_) (fun _ => ?_)⟩
    · exact ⟨_, rfl, _, _, rfl, rfl, ⟨by decide, by decide⟩, _, _, rfl, rfl, (by show (0 : Int) < 7; decide), _, _, rfl, rfl, q _⟩
    · exact ⟨_, rfl, _, _, rfl, rfl, ⟨by decide, by decide⟩, _, _, rfl, rfl, ⟨by decide, by decide, by decide⟩, _, _, rfl, rfl, .inl ⟨by decide, by decide⟩, _, _, rfl, rfl, _, _, rfl, rfl, (by show (0 : Int) < 2 * 10 ^ (60 : Int).toNat - 1; decide), _, _, rfl, rfl, ⟨by decide, by decide, by decide⟩, _, _, rfl, rfl, _, _, rfl, rfl, q _⟩
theorem ok_whole (T : Txt K mg) : L2.Cl P w K mg base 1 "_law_whole" ["_law_found"] (fun vs H Q _ => ∃ i : Int, vs = [.int i] ∧ Q (.bl true) H) := by
  refine Cl.of T.d_law_whole sc_law_whole (fun vs H Q E h => ?_) (fun _ _ _ _ _ _ us hl => len1 us hl (fun _ => rfl)) (fun fa cdv A outer s H vs Q E hr h => ?_)
  · obtain ⟨c, rfl, _⟩ := h
    rfl
  · obtain ⟨c, rfl, q⟩ := h
    refine ⟨_, (pss_one (ps_ret (pe_and (pe_callB call_isinst (by rfl) T.n_isinstance PyProof.Rows.boot_isinstance (pa_cons (pv 0) (pa_cons (pe_bltn (v := .ty "int") (by rfl) T.n_int boot_int rfl) pa_nil))) (pe_one (pe_not (pe_callB call_isinst (by rfl) T.n_isinstance PyProof.Rows.boot_isinstance (pa_cons (pv 0) (pa_cons (pe_bltn (v := .ty "bool") (by rfl) T.n_bool boot_bool rfl) pa_nil)))))))), ?_⟩
    refine ⟨_, rfl, _, _, _, _, rfl, .int c, kit_same _ _, _, rfl, iteT ?_⟩
    exact ⟨_, rfl, _, _, _, _, rfl, .int c, kit_int_bool _, _, rfl, q⟩
noncomputable def spAlike : Sp := fun vs H Q _ => ∃ (p t d : Addr) (vs' us : List V) (dds : List Dd), vs = [.ref p, .ref d] ∧ H p = some (.tup [.ref t, .non]) ∧ H t = some (.tup vs') ∧ Paired (DdAt H) vs' dds ∧ H d = some (.lst us) ∧ Paired (DdAt H) us dds ∧ ∀ H', Same H H' → Q (.bl true) H'
theorem dd_tups {H : Hp} : ∀ {vs : List V} {ds : List Dd}, Paired (DdAt H) vs ds → Paired (TupIs H) vs (ds.map fun d => [.str d.1, .int d.2.1, .str d.2.2.1, .int (d.2.2.2 : Int)]) := by
  intro vs ds h
  induction h with
  | nil => exact .nil
  | cons h r ih =>
    obtain ⟨t, e, h⟩ := h
    exact .cons ⟨t, e, h⟩ ih
theorem ok_alike (T : Txt K mg) : L2.Cl P w K mg base 2 "_law_alike" ["_law_found", "_law_due"] spAlike := by
  have C_law_whole := ok_whole (P := P) (w := w) (base := base) T
  refine Cl.of T.d_law_alike sc_law_alike (fun vs H Q E h => ?_) (fun _ _ _ _ _ _ us hl => len2 us hl (fun _ _ => rfl)) (fun fa cdv A outer s H vs Q E hr h => ?_)
  · obtain ⟨p, t, d, vs', us, dds, rfl, _⟩ := h
    rfl
  · obtain ⟨p, t, d, vs', us, dds, rfl, hp, ht, hvs, hd, hus, q⟩ := h
    have hu := hu_of hr
    refine ⟨_, (pss_cons (ps_if (PW.pt (pw_or (pt_not (pt_val (pe_callB call_isinst (by rfl) T.n_isinstance PyProof.Rows.boot_isinstance (pa_cons (pv 0) (pa_cons (pe_bltn (v := .ty "tuple") (by rfl) T.n_tuple boot_tuple rfl) pa_nil))))) (pw_or (pt_cmpR op_ne (pe_callB call_len_seq (by rfl) T.n_len PySem.boot_len (pa_cons (pv 0) pa_nil)) pe_int (nomark _)) (pw_or (pt_not (pt_val (pe_callB call_isinst (by rfl) T.n_isinstance PyProof.Rows.boot_isinstance (pa_cons (pe_ix ix_tup (pv 0) pe_int (fun _ _ => rfl)) (pa_cons (pe_bltn (v := .ty "tuple") (by rfl) T.n_tuple boot_tuple rfl) pa_nil))))) (pw_or1 (pt_cmp (pc_notN (pe_ix ix_tup (pv 0) pe_int (fun _ _ => rfl)))))))))
        (pss_one (ps_ret pe_bl)) pss_nil)
      (pss_cons (ps_for PassesOwn.never rfl (pi_tup (pe_ix ix_tup (pv 0) pe_int (fun _ _ => rfl))) (pg_name (i := 2) sc_law_alike.nd rfl (Or.inl rfl))
        (pss_one (ps_if (PW.pt (pw_or (pt_not (pt_val (pe_callB call_isinst (by rfl) T.n_isinstance PyProof.Rows.boot_isinstance (pa_cons (pv 2) (pa_cons (pe_bltn (v := .ty "tuple") (by rfl) T.n_tuple boot_tuple rfl) pa_nil))))) (pw_or (pt_cmpR op_ne (pe_callB call_len_seq (by rfl) T.n_len PySem.boot_len (pa_cons (pv 2) pa_nil)) pe_int (nomark _)) (pw_or (pt_not (pt_val (pe_fn C_law_whole hr (by rfl) (pa_cons (pe_ix ix_tup (pv 2) pe_int (fun _ _ => rfl)) pa_nil)))) (pw_or1 (pt_not (pt_val (pe_fn C_law_whole hr (by rfl) (pa_cons (pe_ix ix_tup (pv 2) pe_int (fun _ _ => rfl)) pa_nil)))))))))
          (pss_one (ps_ret pe_bl)) pss_nil)))
      (pss_one (ps_ret (pe_cmpR (op_eqL_tups hu) (pe_callTy call_list_of (by rfl) T.n_list boot_list (pa_cons (pe_ix ix_tup (pv 0) pe_int (fun _ _ => rfl)) pa_nil)) (pv 1) (nomark _)))))), ?_⟩
    refine ⟨_, rfl, _, _, _, _, rfl, .tup hp, kit_same _ _, _, rfl, iteF ?_⟩
    refine ⟨_, rfl, p, _, rfl, .inr (SqT.of hp), rfl, _, rfl, iteNS rfl ?_⟩
    refine ⟨_, rfl, p, _, _, _, rfl, rfl, SqT.of hp, rfl, _, _, _, _, rfl, .tup ht, kit_same _ _, _, rfl, iteF ?_⟩
    refine ⟨_, rfl, p, _, _, _, rfl, rfl, SqT.of hp, rfl, _, rfl, iteNS rfl ?_⟩
    refine ⟨_, rfl, p, _, _, _, rfl, rfl, SqT.of hp, rfl, t, rfl, ⟨_, SqT.of ht⟩, for_tup (K := K) (a := t) (xs := vs') (fun i σ H2 => ∃ v2 : Option V, σ = [some (.ref p), some (.ref d), v2] ∧ H2 = H)
      ⟨none, rfl, rfl⟩ (fun i σ H2 _ ⟨_, _, e⟩ => by rw [e]; exact SqT.of ht) ?_ ?_⟩
    · rintro i y σ H2 hy ⟨v2, rfl, rfl⟩
      obtain ⟨dd, hdd, td, ey, htd⟩ := Paired.get? hvs hy
      subst ey
      refine ⟨_, rfl, _, _, _, _, rfl, .tup htd, kit_same _ _, _, rfl, iteF ?_⟩
      refine ⟨_, rfl, td, _, rfl, .inr (SqT.of htd), rfl, _, rfl, iteNS rfl ?_⟩
      refine ⟨_, rfl, td, _, _, _, rfl, rfl, SqT.of htd, rfl, _, rfl, _, rfl, iteF ?_⟩
      refine ⟨_, rfl, td, _, _, _, rfl, rfl, SqT.of htd, rfl, _, rfl, _, rfl, iteF ?_⟩
      exact ⟨_, rfl, rfl⟩
    · rintro σ H2 ⟨v2, rfl, rfl⟩
      refine ⟨_, rfl, p, _, _, _, rfl, rfl, SqT.of hp, rfl, t, _, rfl, .inr (SqT.of ht), fun l gl => ?_⟩
      have s1 : Same H2 (upd H2 l (.lst vs')) := (Same.refl H2).new gl
      have hl1 : upd H2 l (.lst vs') l = some (.lst vs') := upd_same
      generalize upd H2 l (.lst vs') = H3 at s1 hl1 ⊢
      refine ⟨_, rfl, l, d, _, _, _, rfl, rfl, SqL.of hl1, SqL.of (s1 _ _ hd), dd_tups (Paired.mapP hvs fun _ _ z => z.mono s1.tups), dd_tups (Paired.mapP hus fun _ _ z => z.mono s1.tups), fun x hx => ?_, q H3 s1⟩
      obtain ⟨y, _, e⟩ := List.mem_map.mp hx
      rw [← e]
      rfl
noncomputable def netL (part : Str) (R : List Rw) : Nt := ⟨[(part, R)], fun x => ((mlR part R).find? fun y => decide (y.1 = x)).map (·.2)⟩
theorem pls_one (part : Str) (R : List Rw) : plsOf [(part, R)] = rowsPl part R := by unfold plsOf; simp
theorem find_key {α β : Type} [DecidableEq α] : ∀ {m : List (α × β)} {k : α} {v : β}, (m.map (·.1)).Nodup → (k, v) ∈ m → (m.find? fun y => decide (y.1 = k)).map (·.2) = some v
  | [], _, _, _, h => by simp at h
  | y :: r, k, v, hn, h => by
    rw [List.map_cons, List.nodup_cons] at hn
    rcases List.mem_cons.mp h with e | e
    · rw [← e, List.find?_cons_of_pos (by simp)]; rfl
    · have hne : ¬ y.1 = k := fun z => hn.1 (by rw [z]; exact List.mem_map_of_mem (f := (·.1)) e)
      rw [List.find?_cons_of_neg (by simpa using hne)]
      exact find_key hn.2 e
theorem net_km {part : Str} {L : LS} (h : LOk part L) {o : Str} {j : Nat} (hm : ((part, o), (part, j)) ∈ mlR part L.rows) : (netL part L.rows).km (part, o) = some (part, j) := find_key h.kn hm
theorem rowG_lt {part : Str} {m : List (Kk × (Str × Nat))} {rw : Rw} (h : RowG part m rw) : LiteR rw := by cases h <;> constructor
theorem rowsPl_mem {part : Str} {R : List Rw} {x : Pl} (h : x ∈ rowsPl part R) : x.2.2 ∈ R := by
  unfold rowsPl at h
  obtain ⟨y, hy, e⟩ := List.mem_map.mp h
  rw [← e]
  obtain ⟨h1, h2, h3⟩ := List.mem_zipIdx (x := y.1) (i := y.2) (k := 0) (by simpa using hy)
  exact h3 ▸ List.getElem_mem _
theorem net_ok {part : Str} {L : LS} (h : LOk part L) (hl : L.rows.length ≤ 36) : NetOk (plsOf [(part, L.rows)]) := by
  rw [pls_one]
  exact ⟨h.kn, fun x hx => rowG_lt (h.rw _ (rowsPl_mem hx)), by rw [rowsPl_len]; omega⟩
theorem net_of {part : Str} {L : LS} (h : LOk part L) : NtOf [(part, L.rows)] (netL part L.rows) := by
  refine ⟨rfl, fun x k e => ?_⟩
  rw [pls_one]
  have e' : ((mlR part L.rows).find? fun y => decide (y.1 = x)).map (·.2) = some k := e
  obtain ⟨y, hy, ey⟩ := Option.map_eq_some_iff.mp e'
  have hm := List.mem_of_find?_eq_some hy
  have hp := List.find?_some hy
  have hx : y.1 = x := by simpa using hp
  show (x, k) ∈ mlR part L.rows
  rw [← hx, ← ey]
  exact hm
theorem net_fit {part : Str} {R : List Rw} (hl : R.length ≤ 36) : PsFit [(part, R)] := ⟨by simp, by simp, fun pt hpt => by rw [List.mem_singleton.mp hpt]; show R.length ≤ 40; omega⟩
theorem net_nt {part : Str} {L : LS} (h : LOk part L) (hl : L.rows.length ≤ 36) : NtOk (netL part L.rows) := by
  have one : ∀ p rs, (p, rs) ∈ (netL part L.rows).ps → p = part ∧ rs = L.rows := fun p rs hm => by
    have : (p, rs) = (part, L.rows) := List.mem_singleton.mp hm
    exact ⟨(Prod.mk.inj this).1, (Prod.mk.inj this).2⟩
  refine ⟨by show ([(part, L.rows)].map (·.1)).Nodup; simp, fun p rs hm rw hr => ?_, by show ([(part, L.rows)].map fun x => x.2.length).sum ≤ 900; simp; omega, by show 1 ≤ 24; decide⟩
  · obtain ⟨rfl, rfl⟩ := one p rs hm
    have hg := h.rw rw hr
    cases hg with
    | take hm =>
      refine ⟨fun d hd => ?_, fun o ho => ?_, fun d hd => ?_, fun d hd => ?_, .take⟩
      · simp [rdR] at hd
      · cases ho
        rw [net_km h hm]
        rfl
      · simp [sgR] at hd
      · simp [sgR] at hd
    | num =>
      refine ⟨fun d hd => ?_, fun o ho => ?_, fun d hd => ?_, fun d hd x e => ?_, .say⟩
      · simp [rdR, L2.namesOf] at hd
      · cases ho
      · rw [List.mem_singleton.mp hd]; exact .inl rfl
      · rw [List.mem_singleton.mp hd] at e
        cases e
    | nam hm =>
      refine ⟨fun d hd => ?_, fun o ho => (by cases ho), fun d hd => (by rw [List.mem_singleton.mp hd]; exact .inl rfl), fun d hd x e => ?_, .say⟩
      · rw [List.mem_singleton.mp hd]
        show ((netL p L.rows).km (p, _)).isSome = true
        rw [net_km h hm]
        rfl
      · rw [List.mem_singleton.mp hd] at e
        cases e
        exact ⟨_, List.mem_singleton.mpr rfl, rfl⟩
theorem run_due {part : Str} {ns : List Int} {cs : List Int} (hl : cs.length ≤ 36) {S' : GS} (hst : Steps (netL part (cs.foldl (stepL part ns) l0).rows) ns (beginS (netL part (cs.foldl (stepL part ns) l0).rows) s0 part) S') (hend : S'.wt = [] ∨ S'.ft ≠ none) : S'.tr = (cs.foldl (stepL part ns) l0).due ∧ S'.ft = none := by
  have hok : LOk part (cs.foldl (stepL part ns) l0) := LOk.fold (l0_ok part) (by show 0 + cs.length ≤ 36; omega)
  refine sim cs l0 _ S' (fun o j hm => net_km hok hm) ⟨rfl, rfl, by show 0 = min 0 ns.length; omega, fun q hq => by cases hq⟩ ?_ hst hend
  show [] ++ (idxRows part (rowsN (netL part (cs.foldl (stepL part ns) l0).rows) part)).reverse = _
  have : rowsN (netL part (cs.foldl (stepL part ns) l0).rows) part = (cs.foldl (stepL part ns) l0).rows := rowsN_eq (by show ([(part, _)].map (·.1)).Nodup; simp) (List.mem_singleton.mpr rfl)
  rw [this, idx_rem]
  rfl
theorem oName_ok {part : Str} {n : Nat} (hp : NameOk part) (hl : part.length ≤ 4) (hn : n < 36) : NameOk (oName part n) := by
  obtain ⟨h1, h2⟩ := num36 n hn
  have e : oName part n = ⟨⟨part.cps.toList ++ (Str.ofString (toString (n : Int))).cps.toList⟩⟩ := by
    show (⟨part.cps ++ (Str.ofString (toString (n : Int))).cps⟩ : Str) = _
    congr 1
    apply Array.ext'
    rw [Array.toList_append]
  rw [e]
  unfold NameOk at hp ⊢
  show isNm (part.cps.toList ++ _) = true
  have hl' : part.cps.toList.length ≤ 4 := by rw [Array.length_toList]; exact hl
  generalize part.cps.toList = l at hp hl' ⊢
  cases l with
  | nil => cases hp
  | cons a r =>
    have h' : (isLet a && r.all isSg && decide (r.length ≤ 7)) = true := hp
    simp only [Bool.and_eq_true, decide_eq_true_eq] at h'
    rw [List.length_cons] at hl'
    show (isLet a && (r ++ _).all isSg && decide ((r ++ _).length ≤ 7)) = true
    simp only [Bool.and_eq_true, decide_eq_true_eq, List.all_append, List.length_append]
    refine ⟨⟨h'.1.1, h'.1.2, List.all_eq_true.mpr h1⟩, by omega⟩
noncomputable def ownV : Option (Str × Nat) → V
  | none => .non
  | some q => .str q.1
theorem log36 {n : Nat} (h : n < 36) : (((n : Nat) : Int)).natAbs.log2 < 1920 := by
  have : ((n : Nat) : Int).natAbs = n := Int.natAbs_natCast n
  rw [this]
  by_cases h0 : n = 0
  · subst h0; decide
  · have h2 : n.log2 ≤ n := Nat.log2_le_self n
    omega
theorem o36 {part : Str} {n : Nat} (hp : part.length ≤ 4) (hn : n < 36) (hsz : sizeLine = 16777216) : part.length + (Str.ofString (toString ((n : Nat) : Int))).length ≤ sizeLine := by
  have := (num36 n hn).2
  have e : (Str.ofString (toString ((n : Nat) : Int))).length = (Str.ofString (toString ((n : Nat) : Int))).cps.toList.length := by rw [Array.length_toList]; rfl
  omega
theorem drop_head {ns : List Int} {k : Nat} (h : (!((ns.drop k).map V.int).isEmpty) = true) : ∃ _v0 : Unit, seqIndex? 0 ((ns.drop k).map V.int).length = some 0 ∧ ((ns.drop k).map V.int)[0]? = some (.int (ns.getD k 0)) := by
  have hlt : k < ns.length := by
    by_cases z : k < ns.length
    · exact z
    · rw [List.drop_eq_nil_of_le (by omega)] at h; cases h
  refine ⟨(), ?_, ?_⟩
  · have : 0 < ((ns.drop k).map V.int).length := by rw [List.length_map, List.length_drop]; omega
    simp [seqIndex?]
    omega
  · rw [List.getElem?_map, List.getElem?_drop, Nat.add_zero, List.getD_eq_getElem?_getD, List.getElem?_eq_getElem hlt]
    rfl
theorem drop_tail (ns : List Int) (k : Nat) : ((ns.drop k).map V.int).eraseIdx 0 = (ns.drop (k + 1)).map V.int := by
  rw [List.eraseIdx_zero, ← List.map_tail, List.tail_drop]
theorem drop_none {ns : List Int} {k : Nat} (h : ¬ (!((ns.drop k).map V.int).isEmpty) = true) : ns.getD k 0 = 0 ∧ ns.drop (k + 1) = ns.drop k := by
  have hle : ns.length ≤ k := by
    by_cases z : ns.length ≤ k
    · exact z
    · exact absurd (isE_len (fun e => by have := congrArg List.length e; rw [List.length_map, List.length_drop] at this; simp at this; omega)) h
  refine ⟨by rw [List.getD_eq_getElem?_getD, List.getElem?_eq_none hle]; rfl, by rw [List.drop_eq_nil_of_le hle, List.drop_eq_nil_of_le (by omega)]⟩
theorem rows_len (part : Str) (ns : List Int) : ∀ (cs : List Int) (L : LS), (cs.foldl (stepL part ns) L).rows.length = L.rows.length + cs.length
  | [], L => by simp
  | c :: cs, L => by rw [List.foldl_cons, rows_len part ns cs, step_rows, List.length_append, List.length_cons]; simp; omega
theorem join_set {c : Bool} {N : L2.St → Hp → Prop} {H : Hp} (S : Int → L2.St) (C : Int → Prop) (k1 k2 : Int) (h1 : c = true → C k1) (h2 : c = false → C k2) (h : ∀ k, C k → N (S k) H) : if c = true then N (S k1) H else N (S k2) H := by
  cases c with
  | true => exact iteT (h _ (h1 rfl))
  | false => exact iteF (h _ (h2 rfl))
theorem join_pop {c : Prop} [Decidable c] {A : Prop} {N : L2.St → Hp → Prop} {H5 : Hp} (S : Int → L2.St) (F : Int → Hp → Prop) (k : Int) (h1 : c → (∀ v H, F v H → N (S v) H) → A) (h2 : ¬ c → F k H5) (h : ∀ v H, F v H → N (S v) H) : if c then A else N (S k) H5 :=
  ite2 (fun q => h1 q h) fun q => h _ _ (h2 q)
set_option genInjectivity false in
structure PvA where
  a : Addr
  D : Addr
  rl : Addr
  dl : Addr
  lf : Addr
  cl : Addr
noncomputable def PvL (H1 : Hp) (B : PvA) (part : Str) (m : Int) (ns ms : List Int) (i : Nat) (σ : L2.St) (H2 : Hp) : Prop := ∃ (us ds : List V) (L : LS) (v9 : Option V), L = (ms.take i).foldl (stepL part ns) l0 ∧ σ = [some (.ref B.a), some (.str part), some (.int m), some (.ref B.D), some (.ref B.rl), some (.ref B.dl), some (ownV L.own), some (.int L.val), some (.ref B.lf), v9, none] ∧ Same H1 H2 ∧ H2 B.cl = some (.lst (ms.map V.int)) ∧ H2 B.rl = some (.lst us) ∧ RowsAt H2 us L.rows ∧ H2 B.dl = some (.lst ds) ∧ Paired (DdAt H2) ds L.due ∧ H2 B.lf = some (.lst ((ns.drop L.tk).map V.int))
theorem law_fn {f : Addr} {fd : FuncData} (F : Fun K "law" "law" s_law f fd) (T : Tc K mg CP CG) : FnOk P w K mg base CX0 11 f fd ["_law_script"] (spLaw K) := by
  have C_law_cell_at := ok_cell (P := P) (w := w) (base := base) T.toTxt
  have C_law_word := ok_word (P := P) (w := w) (base := base) T.toTxt
  have C_law_number := ok_number (P := P) (w := w) (base := base) T.toTxt
  have C_law_alike := ok_alike (P := P) (w := w) (base := base) T.toTxt
  have C_run := ok_run (P := P) (w := w) (base := base) T
  refine F.ok sc_law (fun vs H Q E h => ?_) (fun cdv A outer s H vs Q E hr h => ?_)
  · obtain ⟨a, ns, rfl, _⟩ := h
    rfl
  · obtain ⟨a, sc, rfl, hS, hlen, q⟩ := h
    have hu0 := Nat.lt_of_succ_lt (hu_of hr)
    have hsz : sizeLine = 16777216 := sizeLine_eq
    refine ⟨_, (pss_cons (ps_set (i := 1) sc_law.nd rfl (Or.inl rfl) (pe_fn C_law_word hr (by rfl) (pa_cons (pe_fn C_law_cell_at hr (by rfl) (pa_cons (pv 0) (pa_cons pe_int pa_nil))) pa_nil)))
      (pss_cons (ps_set (i := 2) sc_law.nd rfl (Or.inl rfl) (pe_op op_mod (pe_fn C_law_cell_at hr (by rfl) (pa_cons (pv 0) (pa_cons pe_int pa_nil))) pe_int))
      (pss_cons (ps_if (pt_cmpR op_eq (pe_op op_mod (pe_op op_fdiv (pe_fn C_law_cell_at hr (by rfl) (pa_cons (pv 0) (pa_cons pe_int pa_nil))) pe_int) pe_int) pe_int (nomark _))
        (pss_one (ps_set (i := 2) sc_law.nd rfl (Or.inl rfl) pe_int)) pss_nil)
      (pss_cons (ps_setC (j := 3) (M := ["_law_k", "_law_script"]) (ρ := [none, some 0]) (defScope s_law) ["_law_script", "_law_part", "_law_many", "_law_told", "_law_rows", "_law_due", "_law_own", "_law_value", "_law_left", "_law_cell", "_law_parts"] ⟨rfl, by decide +kernel, by decide +kernel, by decide +kernel, rfl, by decide +kernel, by decide +kernel⟩ sc_law.nd rfl (Or.inl rfl) (pi_range1 (by rfl) T.n_range (pa_cons (pv 2) pa_nil)) (fun _ _ _ _ _ _ => (pg_name (i := 0) (show (["_law_k", "_law_script"] : List Str).Nodup by decide +kernel) rfl (Or.inl rfl))) (fun _ _ _ _ _ _ => pts_nil) (fun _ _ _ _ _ _ => (pe_fn C_law_number hr (by rfl) (pa_cons (pe_fn C_law_cell_at hr (by rfl) (pa_cons (pv 1) (pa_cons (pe_op op_add pe_int (pv 0)) pa_nil))) pa_nil))))
      (pss_cons (ps_set (i := 4) sc_law.nd rfl (Or.inl rfl) (pe_lst pa_nil))
      (pss_cons (ps_set (i := 5) sc_law.nd rfl (Or.inl rfl) (pe_lst pa_nil))
      (pss_cons (ps_set (i := 6) sc_law.nd rfl (Or.inl rfl) pe_non)
      (pss_cons (ps_set (i := 7) sc_law.nd rfl (Or.inl rfl) pe_int)
      (pss_cons (ps_set (i := 8) sc_law.nd rfl (Or.inl rfl) (pe_callTy call_list_of (by rfl) T.n_list boot_list (pa_cons (pv 3) pa_nil)))
      (pss_cons (ps_for PassesOwn.never rfl (pi_list (pe_slice sl_list (pv 0) po_none (po_some pe_int))) (pg_name (i := 9) sc_law.nd rfl (Or.inl rfl))
        (pss_one (ps_if (pt_cmpR op_eq (pe_op op_mod (pv 9) pe_int) pe_int (nomark _))
          (pss_cons (ps_set (i := 6) sc_law.nd rfl (Or.inl rfl) (pe_op op_add_str (pv 1) (pe_callTy call_str_int (by rfl) T.n_str boot_str (pa_cons (pe_callB call_len_seq (by rfl) T.n_len PySem.boot_len (pa_cons (pv 4) pa_nil)) pa_nil))))
          (pss_cons (ps_set (i := 7) sc_law.nd rfl (Or.inl rfl) pe_int)
          (pss_cons (ps_if (pt_cmpR (op_neL_nil hu0) (pv 8) (pe_lst pa_nil) (nomark _))
            (pss_one (ps_set (i := 7) sc_law.nd rfl (Or.inl rfl) (pe_bm PySem.F.plainAttrs_list PySem.F.slot_list_pop PySem.F.type_list_pop mt_popAt (pv 8) (pa_cons pe_int pa_nil)))) pss_nil)
          (pss_cons (ps_expr (pe_bm PySem.F.plainAttrs_list PySem.F.slot_list_append PySem.F.type_list_append mt_append (pv 5) (pa_cons (pe_tup (pa_cons pe_str (pa_cons (pv 7) (pa_cons (pv 1) (pa_cons (pe_callB call_len_seq (by rfl) T.n_len PySem.boot_len (pa_cons (pv 4) pa_nil)) pa_nil))))) pa_nil)))
          (pss_one (ps_expr (pe_bm PySem.F.plainAttrs_list PySem.F.slot_list_append PySem.F.type_list_append mt_append (pv 4) (pa_cons (pe_tup (pa_cons pe_str (pa_cons (pv 6) pa_nil))) pa_nil)))))))) (pss_one (ps_if (pt_cmp (pc_isN (pv 6)))
            (pss_cons (ps_expr (pe_bm PySem.F.plainAttrs_list PySem.F.slot_list_append PySem.F.type_list_append mt_append (pv 5) (pa_cons (pe_tup (pa_cons pe_str (pa_cons (pe_op op_mod (pe_op op_fdiv (pv 9) pe_int) (pe_op op_pow pe_int pe_int)) (pa_cons (pv 1) (pa_cons (pe_callB call_len_seq (by rfl) T.n_len PySem.boot_len (pa_cons (pv 4) pa_nil)) pa_nil))))) pa_nil)))
            (pss_one (ps_expr (pe_bm PySem.F.plainAttrs_list PySem.F.slot_list_append PySem.F.type_list_append mt_append (pv 4) (pa_cons (pe_tup (pa_cons pe_str (pa_cons (pe_tup (pa_cons (pe_tup (pa_cons pe_int (pa_cons (pe_op op_mod (pe_op op_fdiv (pv 9) pe_int) (pe_op op_pow pe_int pe_int)) pa_nil))) pa_nil)) (pa_cons pe_non pa_nil)))) pa_nil))))) (pss_cons (ps_expr (pe_bm PySem.F.plainAttrs_list PySem.F.slot_list_append PySem.F.type_list_append mt_append (pv 5) (pa_cons (pe_tup (pa_cons pe_str (pa_cons (pv 7) (pa_cons (pv 1) (pa_cons (pe_callB call_len_seq (by rfl) T.n_len PySem.boot_len (pa_cons (pv 4) pa_nil)) pa_nil))))) pa_nil)))
            (pss_one (ps_expr (pe_bm PySem.F.plainAttrs_list PySem.F.slot_list_append PySem.F.type_list_append mt_append (pv 4) (pa_cons (pe_tup (pa_cons pe_str (pa_cons (pe_tup (pa_cons (pe_tup (pa_cons pe_int (pa_cons (pv 6) pa_nil))) pa_nil)) (pa_cons pe_non pa_nil)))) pa_nil))))))))))
      (pss_cons (ps_set (i := 10) sc_law.nd rfl (Or.inl rfl) (pe_tupF (pa_cons (pe_tup (pa_cons (pv 1) (pa_cons (pe_callTy call_tuple_of (by rfl) T.n_tuple boot_tuple (pa_cons (pv 4) pa_nil)) pa_nil))) pa_nil)))
      (pss_cons (ps_if (pt_not (pt_val (pe_fn C_law_alike hr (by rfl) (pa_cons (pe_fn C_run hr (by rfl) (pa_cons (pv 10) (pa_cons (pv 1) (pa_cons (pe_callTy call_tuple_of (by rfl) T.n_tuple boot_tuple (pa_cons (pv 3) pa_nil)) pa_nil)))) (pa_cons (pv 5) pa_nil)))))
        (pss_one (ps_ret pe_bl)) pss_nil)
      (pss_cons (ps_expr (pe_fn C_run hr (by rfl) (pa_cons (pv 10) (pa_cons (pv 1) (pa_cons (pe_tup (pa_cons pe_int (pa_cons pe_int pa_nil))) pa_nil)))))
      (pss_one (ps_ret (pe_fn C_law_alike hr (by rfl) (pa_cons (pe_fn C_run hr (by rfl) (pa_cons (pv 10) (pa_cons (pv 1) (pa_cons (pe_callTy call_tuple_of (by rfl) T.n_tuple boot_tuple (pa_cons (pv 3) pa_nil)) pa_nil)))) (pa_cons (pv 5) pa_nil)))))))))))))))))), ?_⟩
    refine ⟨_, rfl, a, sc, 0, rfl, hS, by decide, fun c0 => ⟨c0, rfl, fun part hpn hpl => ?_⟩⟩
    refine ⟨_, rfl, a, sc, 1, rfl, hS, by decide, fun c1 => ⟨_, _, rfl, rfl, (by show (0 : Int) < 9; decide), ?_⟩⟩
    refine ⟨_, rfl, a, sc, 1, rfl, hS, by decide, fun c2 => ⟨_, _, rfl, rfl, ⟨by decide, by decide⟩, _, _, rfl, rfl, (by show (0 : Int) < 4; decide), rfl, _, rfl, ?_⟩⟩
    refine join_set (S := fun e => [some (.ref a), some (.str part), some (.int e), none, none, none, none, none, none, none, none]) (fun e => 0 ≤ e ∧ e ≤ 40) 40 (c1 % 9) (fun _ => ⟨by decide, by decide⟩) (fun _ => ⟨by omega, by omega⟩) (fun m hm => ?_)
    obtain ⟨hm0, hm1⟩ := hm
    refine ⟨_, rfl, _, rfl, (by omega), (by omega), fun D hD => ?_⟩
    refine comp_by m.toNat (fun i σ H2 => ∃ (v0 : Option V) (ns : List Int), σ = [v0, some (.ref a)] ∧ Same H H2 ∧ H2 D = some (.lst (ns.map V.int)) ∧ ns.length = i) ⟨_, [], rfl, (Same.refl H).new hD, upd_same, rfl⟩ ?_ ?_
    · rintro i σ H2 hi ⟨v0, ns, rfl, s2, hD2, hnl⟩
      refine ⟨hi, ?_⟩
      rintro x H3 ⟨rfl, rfl⟩
      refine ntG ?_
      refine ⟨_, rfl, _, rfl, _, _, rfl, rfl, a, sc, _, rfl, s2.seq hS, by omega, fun c3 => ⟨c3, rfl, fun i3 => ?_⟩⟩
      refine ⟨_, hD2, small1000 (by rw [List.length_map]; omega), _, ns ++ [i3], rfl, s2.put hD, ?_, by rw [List.length_append, hnl]; rfl⟩
      rw [upd_same, List.map_append]
      rfl
    · rintro σ H1 ⟨v0, ns, rfl, s1, hD1, hnl⟩
      refine ⟨Nat.le_refl _, ?_⟩
      refine ⟨(by show 0 ≤ sizeLine; decide), fun rl grl => ?_⟩
      refine ⟨(by show 0 ≤ sizeLine; decide), fun dl gdl => ?_⟩
      have sa : Same H1 (upd (upd H1 rl (.lst [])) dl (.lst [])) := ((Same.refl H1).new grl).new gdl
      have hrla : upd (upd H1 rl (.lst [])) dl (.lst []) rl = some (.lst []) := upd_keep upd_same gdl
      have hdla : upd (upd H1 rl (.lst [])) dl (.lst []) dl = some (.lst []) := upd_same
      have nrd : rl ≠ dl := ne_of_none (upd_same (H := H1) (a := rl) (o := .lst [])) gdl
      have gdl1 : H1 dl = none := ((Same.refl H1).new (o := .lst []) grl).free gdl
      generalize upd (upd H1 rl (.lst [])) dl (.lst []) = Ha at sa hrla hdla ⊢
      refine ⟨_, rfl, D, _, rfl, .inl (SqL.of (sa _ _ hD1)), fun lf glf => ?_⟩
      have sb : Same H1 (upd Ha lf (.lst (ns.map V.int))) := sa.new glf
      have hrlb := upd_keep (o := .lst (ns.map V.int)) hrla glf
      have hdlb := upd_keep (o := .lst (ns.map V.int)) hdla glf
      have hlfb : upd Ha lf (.lst (ns.map V.int)) lf = some (.lst (ns.map V.int)) := upd_same
      have nrf : rl ≠ lf := ne_of_none hrla glf
      have ndf : dl ≠ lf := ne_of_none hdla glf
      have glf1 : H1 lf = none := sa.free glf
      generalize upd Ha lf (.lst (ns.map V.int)) = Hb at sb hrlb hdlb hlfb ⊢
      refine ⟨_, rfl, _, rfl, a, _, rfl, (s1.trans sb).seq hS, fun cl gcl => ?_⟩
      obtain ⟨ms, hms, hml⟩ : ∃ ms : List Int, cutV (sc.map V.int) none (some 36) = ms.map V.int ∧ ms.length ≤ 36 := by
        refine ⟨sc.take (min 36 (sc.map V.int).length), ?_, by rw [List.length_take]; omega⟩
        unfold cutV
        rw [HT.sIx_none, show (some (36 : Int)) = some ((36 : Nat) : Int) from rfl, HT.sIx_nat, List.drop_zero, Nat.sub_zero, List.map_take]
      rw [hms]
      have sd : Same H1 (upd Hb cl (.lst (ms.map V.int))) := sb.new gcl
      have hrld := upd_keep (o := .lst (ms.map V.int)) hrlb gcl
      have hdld := upd_keep (o := .lst (ms.map V.int)) hdlb gcl
      have hlfd := upd_keep (o := .lst (ms.map V.int)) hlfb gcl
      have hcld : upd Hb cl (.lst (ms.map V.int)) cl = some (.lst (ms.map V.int)) := upd_same
      have ncr : cl ≠ rl := (ne_of_none hrlb gcl).symm
      have ncd : cl ≠ dl := (ne_of_none hdlb gcl).symm
      have ncf : cl ≠ lf := (ne_of_none hlfb gcl).symm
      have nfr : lf ≠ rl := nrf.symm
      have nfd : lf ≠ dl := ndf.symm
      have grl1 : H1 rl = none := grl
      generalize upd Hb cl (.lst (ms.map V.int)) = Hd at sd hrld hdld hlfd hcld ⊢
      have hPv : PvL H1 ⟨a, D, rl, dl, lf, cl⟩ part m ns ms = PvL H1 ⟨a, D, rl, dl, lf, cl⟩ part m ns ms := rfl
      generalize hPd : PvL H1 ⟨a, D, rl, dl, lf, cl⟩ part m ns ms = Pv at hPv
      refine ⟨cl, rfl, ⟨_, SqL.of hcld⟩, for_list (K := K) (a := cl) (xs := ms.map V.int) Pv (by rw [← hPd]; exact ⟨[], [], l0, none, rfl, rfl, sd, hcld, hrld, .nil, hdld, .nil, hlfd⟩) (fun i σ H2 _ h => by rw [← hPd] at h; obtain ⟨_, _, _, _, _, _, _, h, _⟩ := h; exact SqL.of h) ?_ ?_⟩
      · intro i y σ H2 hy hPi
        rw [← hPd] at hPi
        obtain ⟨us, ds, L, v9, hL, rfl, s2, hcl2, hrl2, hrs, hdl2, hds, hlf2⟩ := hPi
        obtain ⟨c, hci, rfl⟩ : ∃ c, ms[i]? = some c ∧ y = .int c := by
          rw [List.getElem?_map] at hy
          cases e : ms[i]? with
          | none => rw [e] at hy; cases hy
          | some c => rw [e] at hy; exact ⟨c, rfl, (Option.some.inj hy).symm⟩
        have hi : i < ms.length := (List.getElem?_eq_some_iff.mp hci).1
        have hLi : stepL part ns L c = (ms.take (i + 1)).foldl (stepL part ns) l0 := by
          rw [take_succ_get hci, List.foldl_append, ← hL]
          rfl
        have hrl36 : L.rows.length = i := by
          rw [hL, rows_len, List.length_take]
          show 0 + min i ms.length = i
          omega
        have hok : LOk part L := by
          rw [hL]
          refine LOk.fold (l0_ok part) ?_
          rw [List.length_take]
          show 0 + min i ms.length ≤ 36
          omega
        have hul : us.length = L.rows.length := Paired.length hrs
        have hdl' : ds.length = L.rows.length := by rw [Paired.length hds, hok.dl]
        have hu36 : us.length ≤ 1000 := by omega
        have hd36 : ds.length ≤ 1000 := by omega
        refine ⟨_, rfl, _, _, rfl, rfl, (by show (0 : Int) < 2; decide), rfl, _, rfl, ite2I (fun hc => ?_) (fun hc => ?_)⟩
        · refine ⟨_, rfl, _, rfl, rl, _, rfl, .inl (SqL.of hrl2), _, rfl, (by have : us.length < 36 := by omega
                                                                              exact log36 this), _, _, rfl, rfl, (by show part.length + _ ≤ sizeLine; exact o36 hpl (by omega) hsz), ?_⟩
          refine ⟨_, rfl, (by show 0 ≤ sizeLine; decide), fun e he => ?_⟩
          have s5 : Same H2 (upd H2 e (.lst [])) := (Same.refl H2).new he
          have he5 : upd H2 e (.lst []) e = some (.lst []) := upd_same
          generalize upd H2 e (.lst []) = H5 at s5 he5 ⊢
          refine ⟨lf, e, _, rfl, rfl, SqL.of (s5 _ _ hlf2), SqL.of he5, _, rfl, ?_⟩
          refine join_pop (S := fun v => [some (.ref a), some (.str part), some (.int m), some (.ref D), some (.ref rl), some (.ref dl), some (.str (oName part us.length)), some (.int v), some (.ref lf), some (.int c), none]) (fun v H6 => v = ns.getD L.tk 0 ∧ Same H1 H6 ∧ Tups H2 H6 ∧ H6 lf = some (.lst ((ns.drop (L.tk + 1)).map V.int)) ∧ H6 dl = some (.lst ds) ∧ H6 rl = some (.lst us) ∧ H6 cl = some (.lst (ms.map V.int))) 0 (fun c3 go => ?_) (fun c3 => ?_) (fun v H6 hF => ?_)
          · obtain ⟨_, hv0, hv1⟩ := drop_head c3
            refine ⟨_, rfl, .inl ⟨rfl, _, SqL.of (s5 _ _ hlf2)⟩, lf, _, 0, 0, _, rfl, rfl, s5 _ _ hlf2, by decide, by decide, hv0, hv1, ?_⟩
            rw [drop_tail]
            exact go _ _ ⟨rfl, (s2.trans s5).put glf1, s5.tups.trans (Tups.lst (s5 _ _ hlf2)), upd_same, by rw [upd_ne ndf]; exact s5 _ _ hdl2, by rw [upd_ne nrf]; exact s5 _ _ hrl2, by rw [upd_ne ncf]; exact s5 _ _ hcl2⟩
          · obtain ⟨e1, e2⟩ := drop_none c3
            exact ⟨e1.symm, s2.trans s5, s5.tups, by rw [e2]; exact s5 _ _ hlf2, s5 _ _ hdl2, s5 _ _ hrl2, s5 _ _ hcl2⟩
          · obtain ⟨rfl, s6, T6, hlf6, hdl6, hrl6, hcl6⟩ := hF
            refine ⟨_, rfl, .inl ⟨rfl, _, SqL.of hdl6⟩, _, rfl, _, rfl, _, rfl, rl, _, rfl, .inl (SqL.of hrl6), (by show 4 ≤ sizeLine; decide), fun t gt => ?_⟩
            have s7 : Same H1 (upd H6 t (.tup [.str "take", .int (ns.getD L.tk 0), .str part, .int (us.length : Int)])) := s6.new gt
            have T7 : Tups H6 (upd H6 t (.tup [.str "take", .int (ns.getD L.tk 0), .str part, .int (us.length : Int)])) := Tups.new gt
            have ht7 : upd H6 t (.tup [.str "take", .int (ns.getD L.tk 0), .str part, .int (us.length : Int)]) t = some (.tup [.str "take", .int (ns.getD L.tk 0), .str part, .int (us.length : Int)]) := upd_same
            have hdl7 := upd_keep (o := .tup [.str "take", .int (ns.getD L.tk 0), .str part, .int (us.length : Int)]) hdl6 gt
            have hrl7 := upd_keep (o := .tup [.str "take", .int (ns.getD L.tk 0), .str part, .int (us.length : Int)]) hrl6 gt
            have hlf7 := upd_keep (o := .tup [.str "take", .int (ns.getD L.tk 0), .str part, .int (us.length : Int)]) hlf6 gt
            have hcl7 := upd_keep (o := .tup [.str "take", .int (ns.getD L.tk 0), .str part, .int (us.length : Int)]) hcl6 gt
            generalize upd H6 t (.tup [.str "take", .int (ns.getD L.tk 0), .str part, .int (us.length : Int)]) = H7 at s7 T7 ht7 hdl7 hrl7 hlf7 hcl7 ⊢
            refine ⟨dl, _, _, rfl, rfl, hdl7, small1000 hd36, ?_⟩
            have s8 : Same H1 (upd H7 dl (.lst (ds ++ [.ref t]))) := s7.put gdl1
            have T8 : Tups H7 (upd H7 dl (.lst (ds ++ [.ref t]))) := Tups.lst hdl7
            have hdl8 : upd H7 dl (.lst (ds ++ [.ref t])) dl = some (.lst (ds ++ [.ref t])) := upd_same
            have hrl8 : upd H7 dl (.lst (ds ++ [.ref t])) rl = some (.lst us) := by rw [upd_ne nrd]; exact hrl7
            have hlf8 : upd H7 dl (.lst (ds ++ [.ref t])) lf = some (.lst ((ns.drop (L.tk + 1)).map V.int)) := by rw [upd_ne nfd]; exact hlf7
            have hcl8 : upd H7 dl (.lst (ds ++ [.ref t])) cl = some (.lst (ms.map V.int)) := by rw [upd_ne ncd]; exact hcl7
            generalize upd H7 dl (.lst (ds ++ [.ref t])) = H8 at s8 T8 hdl8 hrl8 hlf8 hcl8 ⊢
            refine ⟨_, rfl, .inl ⟨rfl, _, SqL.of hrl8⟩, _, rfl, (by show 2 ≤ sizeLine; decide), fun r gr => ?_⟩
            have s9 : Same H1 (upd H8 r (.tup [.str "take", .str (oName part us.length)])) := s8.new gr
            have T9 : Tups H8 (upd H8 r (.tup [.str "take", .str (oName part us.length)])) := Tups.new gr
            have hr9 : upd H8 r (.tup [.str "take", .str (oName part us.length)]) r = some (.tup [.str "take", .str (oName part us.length)]) := upd_same
            have hdl9 := upd_keep (o := .tup [.str "take", .str (oName part us.length)]) hdl8 gr
            have hrl9 := upd_keep (o := .tup [.str "take", .str (oName part us.length)]) hrl8 gr
            have hlf9 := upd_keep (o := .tup [.str "take", .str (oName part us.length)]) hlf8 gr
            have hcl9 := upd_keep (o := .tup [.str "take", .str (oName part us.length)]) hcl8 gr
            have hgo : ∀ H9 : Hp, Same H1 H9 → Tups H8 H9 → H9 r = some (.tup [.str "take", .str (oName part us.length)]) → H9 dl = some (.lst (ds ++ [.ref t])) → H9 rl = some (.lst us) → H9 lf = some (.lst ((ns.drop (L.tk + 1)).map V.int)) → H9 cl = some (.lst (ms.map V.int)) → Pv (i + 1) [some (.ref a), some (.str part), some (.int m), some (.ref D), some (.ref rl), some (.ref dl), some (.str (oName part us.length)), some (.int (ns.getD L.tk 0)), some (.ref lf), some (.int c), none] (upd H9 rl (.lst (us ++ [.ref r]))) := fun H9 s9 T9 hr9 hdl9 hrl9 hlf9 hcl9 => by
              have T10 : Tups H9 (upd H9 rl (.lst (us ++ [.ref r]))) := Tups.lst hrl9
              have TT := ((T6.trans T7).trans T8).trans (T9.trans T10)
              rw [← hPd]
              refine ⟨us ++ [.ref r], ds ++ [.ref t], _, some (.int c), hLi, ?_, s9.put grl1, by rw [upd_ne ncr]; exact hcl9, upd_same, ?_, by rw [upd_ne nrd.symm]; exact hdl9, ?_, ?_⟩
              · rw [step_even hc, hul]; rfl
              · rw [step_even hc]
                refine Paired.snoc (hrs.mono TT) ⟨r, rfl, ?_⟩
                show upd H9 rl (.lst (us ++ [.ref r])) r = some (.tup [.str "take", .str (oName part L.rows.length)])
                rw [← hul]
                exact T10 _ _ hr9
              · rw [step_even hc]
                refine Paired.snoc (Paired.mapP hds fun _ _ z => z.mono TT) ⟨t, rfl, ?_⟩
                show _ = some (HO.tup [V.str "take", V.int (ns.getD L.tk 0), V.str part, V.int (L.rows.length : Int)])
                rw [← hul]
                exact (T8.trans (T9.trans T10)) _ _ ht7
              · rw [step_even hc, upd_ne nfr]
                exact hlf9
            refine ⟨rl, _, _, rfl, rfl, hrl9, small1000 hu36, ?_⟩
            exact hgo _ s9 T9 hr9 hdl9 hrl9 hlf9 hcl9
        · skip
          refine ⟨_, rfl, _, rfl, ?_⟩
          cases hown : L.own with
          | none =>
            refine iteDP rfl ?_
            refine ⟨_, rfl, .inl ⟨rfl, _, SqL.of hdl2⟩, _, rfl, _, _, rfl, rfl, ⟨by decide, by decide⟩, _, _, rfl, rfl, ⟨by decide, by decide, by decide⟩, _, _, rfl, rfl, (by show (0 : Int) < 10 ^ (60 : Int).toNat; decide), _, rfl, _, rfl, rl, _, rfl, .inl (SqL.of hrl2), (by show 4 ≤ sizeLine; decide), fun t gt => ?_⟩
            have s7 : Same H1 (upd H2 t (.tup [.str "say", .int (c / 2 % 10 ^ (60 : Int).toNat), .str part, .int (us.length : Int)])) := s2.new gt
            have T7 : Tups H2 (upd H2 t (.tup [.str "say", .int (c / 2 % 10 ^ (60 : Int).toNat), .str part, .int (us.length : Int)])) := Tups.new gt
            have ht7 : upd H2 t (.tup [.str "say", .int (c / 2 % 10 ^ (60 : Int).toNat), .str part, .int (us.length : Int)]) t = some (.tup [.str "say", .int (c / 2 % 10 ^ (60 : Int).toNat), .str part, .int (us.length : Int)]) := upd_same
            have hdl7 := upd_keep (o := .tup [.str "say", .int (c / 2 % 10 ^ (60 : Int).toNat), .str part, .int (us.length : Int)]) hdl2 gt
            have hrl7 := upd_keep (o := .tup [.str "say", .int (c / 2 % 10 ^ (60 : Int).toNat), .str part, .int (us.length : Int)]) hrl2 gt
            have hlf7 := upd_keep (o := .tup [.str "say", .int (c / 2 % 10 ^ (60 : Int).toNat), .str part, .int (us.length : Int)]) hlf2 gt
            have hcl7 := upd_keep (o := .tup [.str "say", .int (c / 2 % 10 ^ (60 : Int).toNat), .str part, .int (us.length : Int)]) hcl2 gt
            generalize upd H2 t (.tup [.str "say", .int (c / 2 % 10 ^ (60 : Int).toNat), .str part, .int (us.length : Int)]) = H7 at s7 T7 ht7 hdl7 hrl7 hlf7 hcl7 ⊢
            refine ⟨dl, _, _, rfl, rfl, hdl7, small1000 hd36, ?_⟩
            have s8 : Same H1 (upd H7 dl (.lst (ds ++ [.ref t]))) := s7.put gdl1
            have T8 : Tups H7 (upd H7 dl (.lst (ds ++ [.ref t]))) := Tups.lst hdl7
            have hdl8 : upd H7 dl (.lst (ds ++ [.ref t])) dl = some (.lst (ds ++ [.ref t])) := upd_same
            have hrl8 : upd H7 dl (.lst (ds ++ [.ref t])) rl = some (.lst us) := by rw [upd_ne nrd]; exact hrl7
            have hlf8 : upd H7 dl (.lst (ds ++ [.ref t])) lf = some (.lst ((ns.drop L.tk).map V.int)) := by rw [upd_ne nfd]; exact hlf7
            have hcl8 : upd H7 dl (.lst (ds ++ [.ref t])) cl = some (.lst (ms.map V.int)) := by rw [upd_ne ncd]; exact hcl7
            generalize upd H7 dl (.lst (ds ++ [.ref t])) = H8 at s8 T8 hdl8 hrl8 hlf8 hcl8 ⊢
            refine ⟨_, rfl, .inl ⟨rfl, _, SqL.of hrl8⟩, _, rfl, _, _, rfl, rfl, ⟨by decide, by decide⟩, _, _, rfl, rfl, ⟨by decide, by decide, by decide⟩, _, _, rfl, rfl, (by show (0 : Int) < 10 ^ (60 : Int).toNat; decide), (by show 2 ≤ sizeLine; decide), fun t2 gt2 => ?_⟩
            have s9 : Same H8 (upd H8 t2 (.tup [.int 1, .int (c / 2 % 10 ^ (60 : Int).toNat)])) := (Same.refl H8).new gt2
            have ht2 : upd H8 t2 (.tup [.int 1, .int (c / 2 % 10 ^ (60 : Int).toNat)]) t2 = some (.tup [.int 1, .int (c / 2 % 10 ^ (60 : Int).toNat)]) := upd_same
            generalize upd H8 t2 (.tup [.int 1, .int (c / 2 % 10 ^ (60 : Int).toNat)]) = H9 at s9 ht2 ⊢
            refine ⟨(by show 1 ≤ sizeLine; decide), fun t3 gt3 => ?_⟩
            have s10 : Same H8 (upd H9 t3 (.tup [.ref t2])) := s9.new gt3
            have ht3 : upd H9 t3 (.tup [.ref t2]) t3 = some (.tup [.ref t2]) := upd_same
            have ht23 := upd_keep (o := .tup [.ref t2]) ht2 gt3
            generalize upd H9 t3 (.tup [.ref t2]) = H10 at s10 ht3 ht23 ⊢
            refine ⟨(by show 3 ≤ sizeLine; decide), fun r gr => ?_⟩
            have s11 : Same H8 (upd H10 r (.tup [.str "say", .ref t3, .non])) := s10.new gr
            have hr11 : upd H10 r (.tup [.str "say", .ref t3, .non]) r = some (.tup [.str "say", .ref t3, .non]) := upd_same
            have ht311 := upd_keep (o := .tup [.str "say", .ref t3, .non]) ht3 gr
            have ht211 := upd_keep (o := .tup [.str "say", .ref t3, .non]) ht23 gr
            generalize upd H10 r (.tup [.str "say", .ref t3, .non]) = H11 at s11 hr11 ht311 ht211 ⊢
            have hgo : Pv (i + 1) [some (.ref a), some (.str part), some (.int m), some (.ref D), some (.ref rl), some (.ref dl), some V.non, some (.int L.val), some (.ref lf), some (.int c), none] (upd H11 rl (.lst (us ++ [.ref r]))) := by
              have T12 : Tups H11 (upd H11 rl (.lst (us ++ [.ref r]))) := Tups.lst (s11 _ _ hrl8)
              have TT := ((T7.trans T8).trans s11.tups).trans T12
              rw [← hPd]
              refine ⟨us ++ [.ref r], ds ++ [.ref t], _, some (.int c), hLi, ?_, (s8.trans s11).put grl1, by rw [upd_ne ncr]; exact s11 _ _ hcl8, upd_same, ?_, by rw [upd_ne nrd.symm]; exact s11 _ _ hdl8, ?_, ?_⟩
              · rw [step_num hc hown, hown]; rfl
              · rw [step_num hc hown]
                exact Paired.snoc (hrs.mono TT) ⟨r, rfl, t3, T12 _ _ hr11, ⟨⟨[.ref t2], T12 _ _ ht311, .cons ⟨t2, rfl, T12 _ _ ht211, ⟨Int.emod_nonneg _ (by decide), Int.emod_lt_of_pos _ (by decide)⟩⟩ .nil⟩, Nat.le_refl _, by show 1 ≤ 6; decide⟩⟩
              · rw [step_num hc hown]
                refine Paired.snoc (Paired.mapP hds fun _ _ z => z.mono TT) ⟨t, rfl, ?_⟩
                show _ = some (HO.tup [V.str "say", V.int (c / 2 % 10 ^ (60 : Int).toNat), V.str part, V.int (L.rows.length : Int)])
                rw [← hul]
                exact ((T8.trans s11.tups).trans T12) _ _ ht7
              · rw [step_num hc hown, upd_ne nfr]
                exact s11 _ _ hlf8
            refine ⟨rl, _, _, rfl, rfl, s11 _ _ hrl8, small1000 hu36, ?_⟩
            exact hgo
          | some q0 =>
            obtain ⟨o1, o2, _⟩ := hok.own q0 hown
            have hq0 : NameOk q0.1 := by rw [o2]; exact oName_ok hpn hpl (by omega)
            refine iteDN (by intro z; cases z) ?_
            refine ⟨_, rfl, .inl ⟨rfl, _, SqL.of hdl2⟩, _, rfl, _, rfl, _, rfl, rl, _, rfl, .inl (SqL.of hrl2), (by show 4 ≤ sizeLine; decide), fun t gt => ?_⟩
            have s7 : Same H1 (upd H2 t (.tup [.str "say", .int L.val, .str part, .int (us.length : Int)])) := s2.new gt
            have T7 : Tups H2 (upd H2 t (.tup [.str "say", .int L.val, .str part, .int (us.length : Int)])) := Tups.new gt
            have ht7 : upd H2 t (.tup [.str "say", .int L.val, .str part, .int (us.length : Int)]) t = some (.tup [.str "say", .int L.val, .str part, .int (us.length : Int)]) := upd_same
            have hdl7 := upd_keep (o := .tup [.str "say", .int L.val, .str part, .int (us.length : Int)]) hdl2 gt
            have hrl7 := upd_keep (o := .tup [.str "say", .int L.val, .str part, .int (us.length : Int)]) hrl2 gt
            have hlf7 := upd_keep (o := .tup [.str "say", .int L.val, .str part, .int (us.length : Int)]) hlf2 gt
            have hcl7 := upd_keep (o := .tup [.str "say", .int L.val, .str part, .int (us.length : Int)]) hcl2 gt
            generalize upd H2 t (.tup [.str "say", .int L.val, .str part, .int (us.length : Int)]) = H7 at s7 T7 ht7 hdl7 hrl7 hlf7 hcl7 ⊢
            refine ⟨dl, _, _, rfl, rfl, hdl7, small1000 hd36, ?_⟩
            have s8 : Same H1 (upd H7 dl (.lst (ds ++ [.ref t]))) := s7.put gdl1
            have T8 : Tups H7 (upd H7 dl (.lst (ds ++ [.ref t]))) := Tups.lst hdl7
            have hdl8 : upd H7 dl (.lst (ds ++ [.ref t])) dl = some (.lst (ds ++ [.ref t])) := upd_same
            have hrl8 : upd H7 dl (.lst (ds ++ [.ref t])) rl = some (.lst us) := by rw [upd_ne nrd]; exact hrl7
            have hlf8 : upd H7 dl (.lst (ds ++ [.ref t])) lf = some (.lst ((ns.drop L.tk).map V.int)) := by rw [upd_ne nfd]; exact hlf7
            have hcl8 : upd H7 dl (.lst (ds ++ [.ref t])) cl = some (.lst (ms.map V.int)) := by rw [upd_ne ncd]; exact hcl7
            generalize upd H7 dl (.lst (ds ++ [.ref t])) = H8 at s8 T8 hdl8 hrl8 hlf8 hcl8 ⊢
            refine ⟨_, rfl, .inl ⟨rfl, _, SqL.of hrl8⟩, _, rfl, (by show 2 ≤ sizeLine; decide), fun t2 gt2 => ?_⟩
            have s9 : Same H8 (upd H8 t2 (.tup [.int 1, ownV (some q0)])) := (Same.refl H8).new gt2
            have ht2 : upd H8 t2 (.tup [.int 1, ownV (some q0)]) t2 = some (.tup [.int 1, ownV (some q0)]) := upd_same
            generalize upd H8 t2 (.tup [.int 1, ownV (some q0)]) = H9 at s9 ht2 ⊢
            refine ⟨(by show 1 ≤ sizeLine; decide), fun t3 gt3 => ?_⟩
            have s10 : Same H8 (upd H9 t3 (.tup [.ref t2])) := s9.new gt3
            have ht3 : upd H9 t3 (.tup [.ref t2]) t3 = some (.tup [.ref t2]) := upd_same
            have ht23 := upd_keep (o := .tup [.ref t2]) ht2 gt3
            generalize upd H9 t3 (.tup [.ref t2]) = H10 at s10 ht3 ht23 ⊢
            refine ⟨(by show 3 ≤ sizeLine; decide), fun r gr => ?_⟩
            have s11 : Same H8 (upd H10 r (.tup [.str "say", .ref t3, .non])) := s10.new gr
            have hr11 : upd H10 r (.tup [.str "say", .ref t3, .non]) r = some (.tup [.str "say", .ref t3, .non]) := upd_same
            have ht311 := upd_keep (o := .tup [.str "say", .ref t3, .non]) ht3 gr
            have ht211 := upd_keep (o := .tup [.str "say", .ref t3, .non]) ht23 gr
            generalize upd H10 r (.tup [.str "say", .ref t3, .non]) = H11 at s11 hr11 ht311 ht211 ⊢
            have hgo : Pv (i + 1) [some (.ref a), some (.str part), some (.int m), some (.ref D), some (.ref rl), some (.ref dl), some (ownV (some q0)), some (.int L.val), some (.ref lf), some (.int c), none] (upd H11 rl (.lst (us ++ [.ref r]))) := by
              have T12 : Tups H11 (upd H11 rl (.lst (us ++ [.ref r]))) := Tups.lst (s11 _ _ hrl8)
              have TT := ((T7.trans T8).trans s11.tups).trans T12
              rw [← hPd]
              refine ⟨us ++ [.ref r], ds ++ [.ref t], _, some (.int c), hLi, ?_, (s8.trans s11).put grl1, by rw [upd_ne ncr]; exact s11 _ _ hcl8, upd_same, ?_, by rw [upd_ne nrd.symm]; exact s11 _ _ hdl8, ?_, ?_⟩
              · rw [step_nam hc hown, hown]
              · rw [step_nam hc hown]
                exact Paired.snoc (hrs.mono TT) ⟨r, rfl, t3, T12 _ _ hr11, ⟨⟨[.ref t2], T12 _ _ ht311, .cons ⟨t2, rfl, T12 _ _ ht211, hq0⟩ .nil⟩, Nat.le_refl _, by show 1 ≤ 6; decide⟩⟩
              · rw [step_nam hc hown]
                refine Paired.snoc (Paired.mapP hds fun _ _ z => z.mono TT) ⟨t, rfl, ?_⟩
                show _ = some (HO.tup [V.str "say", V.int L.val, V.str part, V.int (L.rows.length : Int)])
                rw [← hul]
                exact ((T8.trans s11.tups).trans T12) _ _ ht7
              · rw [step_nam hc hown, upd_ne nfr]
                exact s11 _ _ hlf8
            refine ⟨rl, _, _, rfl, rfl, s11 _ _ hrl8, small1000 hu36, ?_⟩
            exact hgo
      · intro σ H2 hPi
        rw [← hPd] at hPi
        obtain ⟨us, ds, L, v9, hL, rfl, s2, hcl2, hrl2, hrs, hdl2, hds, hlf2⟩ := hPi
        rw [List.length_map, List.take_length] at hL
        have hok : LOk part L := by
          rw [hL]
          exact LOk.fold (l0_ok part) (by show 0 + ms.length ≤ 36; omega)
        have hR : L.rows.length ≤ 36 := by
          rw [hL, rows_len]
          show 0 + ms.length ≤ 36
          omega
        have hD2 := s2 _ _ hD1
        refine ⟨_, rfl, _, rfl, rl, _, rfl, .inl ⟨SqL.of hrl2, fun u gu => ?_⟩⟩
        refine ⟨(by show 2 ≤ sizeLine; decide), fun t gt => ?_⟩
        have s4 : Same H2 (upd (upd H2 u (.tup us)) t (.tup [.str part, .ref u])) := ((Same.refl H2).new gu).new gt
        have hu4 : upd (upd H2 u (.tup us)) t (.tup [.str part, .ref u]) u = some (.tup us) := upd_keep upd_same gt
        have ht4 : upd (upd H2 u (.tup us)) t (.tup [.str part, .ref u]) t = some (.tup [.str part, .ref u]) := upd_same
        generalize upd (upd H2 u (.tup us)) t (.tup [.str part, .ref u]) = H4 at s4 hu4 ht4 ⊢
        refine ⟨(by show 1 ≤ sizeLine; decide), fun x o gx ho => ?_⟩
        have s5 : Same H4 (upd H4 x (.frz o (.tup [.ref t]))) := (Same.refl H4).new gx
        have hx5 : upd H4 x (.frz o (.tup [.ref t])) x = some (.frz o (.tup [.ref t])) := upd_same
        generalize upd H4 x (.frz o (.tup [.ref t])) = H5 at s5 hx5 ⊢
        have s25 := s4.trans s5
        have hpf : PartsF H5 x [(part, L.rows)] := ⟨o, [.ref t], hx5, ho, .cons ⟨t, u, us, rfl, s5 _ _ ht4, s5 _ _ hu4, hrs.mono s25.tups⟩ .nil⟩
        have first : ∀ {H6 : Hp} {n : Addr} {ms' : List Int}, Same H5 H6 → True := fun _ => trivial
        refine ⟨_, rfl, _, rfl, _, rfl, D, _, rfl, .inl ⟨SqL.of (s25 _ _ hD2), fun n gn => ?_⟩⟩
        have s6 : Same H5 (upd H5 n (.tup (ns.map V.int))) := (Same.refl H5).new gn
        have hn6 : upd H5 n (.tup (ns.map V.int)) n = some (.tup (ns.map V.int)) := upd_same
        generalize upd H5 n (.tup (ns.map V.int)) = H6 at s6 hn6 ⊢
        refine ⟨x, n, [(part, L.rows)], netL part L.rows, ns, part, rfl, s6.partsF hpf, net_fit hR, net_ok hok hR, net_of hok, net_nt hok hR, hn6, List.mem_singleton.mpr rfl, fun p t' vs v S' H7 s7 hp ht hvs hf hst hend => ?_⟩
        have hdue : S'.tr = L.due ∧ S'.ft = none := by
          rw [hL] at hst ⊢
          exact run_due hml hst hend
        rw [hdue.2] at hf
        have hv : v = .non := hf
        subst hv
        rw [hdue.1] at hvs
        have s27 := (s25.trans s6).trans s7
        refine ⟨_, rfl, p, t', dl, vs, ds, L.due, rfl, hp, ht, hvs, s27 _ _ hdl2, Paired.mapP hds fun _ _ z => z.mono s27.tups, fun H8 s8 => ⟨_, rfl, iteF ?_⟩⟩
        refine ⟨_, rfl, _, rfl, (by show 2 ≤ sizeLine; decide), fun n2 gn2 => ?_⟩
        have s9 : Same H8 (upd H8 n2 (.tup [.int 5, .int 6])) := (Same.refl H8).new gn2
        have hn9 : upd H8 n2 (.tup [.int 5, .int 6]) n2 = some (.tup (([5, 6] : List Int).map V.int)) := upd_same
        generalize upd H8 n2 (.tup [.int 5, .int 6]) = H9 at s9 hn9 ⊢
        have s59 := ((s6.trans s7).trans s8).trans s9
        refine ⟨x, n2, [(part, L.rows)], netL part L.rows, [5, 6], part, rfl, s59.partsF hpf, net_fit hR, net_ok hok hR, net_of hok, net_nt hok hR, hn9, List.mem_singleton.mpr rfl, fun p2 t2 vs2 v2 S2 H10 s10 _ _ _ _ _ _ => ?_⟩
        have s510 := s59.trans s10
        have s210 := s25.trans s510
        refine ⟨_, rfl, _, rfl, _, rfl, D, _, rfl, .inl ⟨SqL.of (s210 _ _ hD2), fun n3 gn3 => ?_⟩⟩
        have s11 : Same H10 (upd H10 n3 (.tup (ns.map V.int))) := (Same.refl H10).new gn3
        have hn11 : upd H10 n3 (.tup (ns.map V.int)) n3 = some (.tup (ns.map V.int)) := upd_same
        generalize upd H10 n3 (.tup (ns.map V.int)) = H11 at s11 hn11 ⊢
        refine ⟨x, n3, [(part, L.rows)], netL part L.rows, ns, part, rfl, (s510.trans s11).partsF hpf, net_fit hR, net_ok hok hR, net_of hok, net_nt hok hR, hn11, List.mem_singleton.mpr rfl, fun p3 t3 vs3 v3 S3 H12 s12 hp3 ht3 hvs3 hf3 hst3 hend3 => ?_⟩
        have hdue3 : S3.tr = L.due ∧ S3.ft = none := by
          rw [hL] at hst3 ⊢
          exact run_due hml hst3 hend3
        rw [hdue3.2] at hf3
        have hv3 : v3 = .non := hf3
        subst hv3
        rw [hdue3.1] at hvs3
        have s212 := (s210.trans s11).trans s12
        exact ⟨_, rfl, p3, t3, dl, vs3, ds, L.due, rfl, hp3, ht3, hvs3, s212 _ _ hdl2, Paired.mapP hds fun _ _ z => z.mono s212.tups, fun H13 _ => q H13⟩
end
end K20
set_option Elab.async false
set_option linter.all false
set_option maxRecDepth 100000
namespace K20
open PySem L2
theorem all_mk {l : PySem.W.OpenLaw} {w : World} {K : PySem.W.Frag} {h : Heap} {mg : Str → Option Value} {fa : Addr} (X : K.In h) (G : h.Ns mainGlobals mg) (hfa : mg "law" = some (.ref fa))
    {CP CG : Addr}
    {f0 : Addr} {od0 an0 : Option Addr} {sl0 : Array (Option Value)} {oc0 kV0 dc0 pm0 cd0 ct0 : Value}
    {f1 : Addr} {od1 an1 : Option Addr} {sl1 : Array (Option Value)} {oc1 kV1 dc1 pm1 cd1 ct1 : Value}
    {f2 : Addr} {od2 an2 : Option Addr} {sl2 : Array (Option Value)} {oc2 kV2 dc2 pm2 cd2 ct2 : Value}
    {f3 : Addr} {od3 an3 : Option Addr} {sl3 : Array (Option Value)} {oc3 kV3 dc3 pm3 cd3 ct3 : Value}
    {f4 : Addr} {od4 an4 : Option Addr} {sl4 : Array (Option Value)} {oc4 kV4 dc4 pm4 cd4 ct4 : Value}
    {f5 : Addr} {od5 an5 : Option Addr} {sl5 : Array (Option Value)} {oc5 kV5 dc5 pm5 cd5 ct5 : Value}
    {f6 : Addr} {od6 an6 : Option Addr} {sl6 : Array (Option Value)} {oc6 kV6 dc6 pm6 cd6 ct6 : Value}
    {f7 : Addr} {od7 an7 : Option Addr} {sl7 : Array (Option Value)} {oc7 kV7 dc7 pm7 cd7 ct7 : Value}
    {f8 : Addr} {od8 an8 : Option Addr} {sl8 : Array (Option Value)} {oc8 kV8 dc8 pm8 cd8 ct8 : Value}
    {f9 : Addr} {od9 an9 : Option Addr} {sl9 : Array (Option Value)} {oc9 kV9 dc9 pm9 cd9 ct9 : Value}
    {f10 : Addr} {od10 an10 : Option Addr} {sl10 : Array (Option Value)} {oc10 kV10 dc10 pm10 cd10 ct10 : Value}
    {f11 : Addr} {od11 an11 : Option Addr} {sl11 : Array (Option Value)} {oc11 kV11 dc11 pm11 cd11 ct11 : Value}
    {f12 : Addr} {od12 an12 : Option Addr} {sl12 : Array (Option Value)} {oc12 kV12 dc12 pm12 cd12 ct12 : Value}
    {f13 : Addr} {od13 an13 : Option Addr} {sl13 : Array (Option Value)} {oc13 kV13 dc13 pm13 cd13 ct13 : Value}
    {f14 : Addr} {od14 an14 : Option Addr} {sl14 : Array (Option Value)} {oc14 kV14 dc14 pm14 cd14 ct14 : Value}
    {f15 : Addr} {od15 an15 : Option Addr} {sl15 : Array (Option Value)} {oc15 kV15 dc15 pm15 cd15 ct15 : Value}
    {f16 : Addr} {od16 an16 : Option Addr} {sl16 : Array (Option Value)} {oc16 kV16 dc16 pm16 cd16 ct16 : Value}
    {f17 : Addr} {od17 an17 : Option Addr} {sl17 : Array (Option Value)} {oc17 kV17 dc17 pm17 cd17 ct17 : Value}
    {f18 : Addr} {od18 an18 : Option Addr} {sl18 : Array (Option Value)} {oc18 kV18 dc18 pm18 cd18 ct18 : Value}
    {f19 : Addr} {od19 an19 : Option Addr} {sl19 : Array (Option Value)} {oc19 kV19 dc19 pm19 cd19 ct19 : Value}
    {f20 : Addr} {od20 an20 : Option Addr} {sl20 : Array (Option Value)} {oc20 kV20 dc20 pm20 cd20 ct20 : Value}
    {f21 : Addr} {od21 an21 : Option Addr} {sl21 : Array (Option Value)} {oc21 kV21 dc21 pm21 cd21 ct21 : Value}
    {f22 : Addr} {od22 an22 : Option Addr} {sl22 : Array (Option Value)} {oc22 kV22 dc22 pm22 cd22 ct22 : Value}
    {f23 : Addr} {od23 an23 : Option Addr} {sl23 : Array (Option Value)} {oc23 kV23 dc23 pm23 cd23 ct23 : Value}
    {f24 : Addr} {od24 an24 : Option Addr} {sl24 : Array (Option Value)} {oc24 kV24 dc24 pm24 cd24 ct24 : Value}
    {f25 : Addr} {od25 an25 : Option Addr} {sl25 : Array (Option Value)} {oc25 kV25 dc25 pm25 cd25 ct25 : Value}
    {f26 : Addr} {od26 an26 : Option Addr} {sl26 : Array (Option Value)} {oc26 kV26 dc26 pm26 cd26 ct26 : Value}
    {f27 : Addr} {od27 an27 : Option Addr} {sl27 : Array (Option Value)} {oc27 kV27 dc27 pm27 cd27 ct27 : Value}
    {f28 : Addr} {od28 an28 : Option Addr} {sl28 : Array (Option Value)} {oc28 kV28 dc28 pm28 cd28 ct28 : Value}
    {f29 : Addr} {od29 an29 : Option Addr} {sl29 : Array (Option Value)} {oc29 kV29 dc29 pm29 cd29 ct29 : Value}
    {f30 : Addr} {od30 an30 : Option Addr} {sl30 : Array (Option Value)} {oc30 kV30 dc30 pm30 cd30 ct30 : Value}
    {f31 : Addr} {od31 an31 : Option Addr} {sl31 : Array (Option Value)} {oc31 kV31 dc31 pm31 cd31 ct31 : Value}
    {f32 : Addr} {od32 an32 : Option Addr} {sl32 : Array (Option Value)} {oc32 kV32 dc32 pm32 cd32 ct32 : Value}
    (a0 : PySem.W.nsIn K mainGlobals "read_names" = some (some (.ref f0))) (l0 : K.lookup f0 = some ⟨oc0, od0, .func (PySem.W.fnOf "read_names" "read_names" (defArgs s_read_names) (defBody s_read_names) (defScope s_read_names) .none kV0 dc0 pm0 an0 cd0 ct0), sl0⟩) (c0 : PySem.W.codeIn K cd0 "read_names" = true) (k0 : PySem.W.keepIn K (.ref f0) = true)
    (a1 : PySem.W.nsIn K mainGlobals "sum_names" = some (some (.ref f1))) (l1 : K.lookup f1 = some ⟨oc1, od1, .func (PySem.W.fnOf "sum_names" "sum_names" (defArgs s_sum_names) (defBody s_sum_names) (defScope s_sum_names) .none kV1 dc1 pm1 an1 cd1 ct1), sl1⟩) (c1 : PySem.W.codeIn K cd1 "sum_names" = true) (k1 : PySem.W.keepIn K (.ref f1) = true)
    (a2 : PySem.W.nsIn K mainGlobals "when_names" = some (some (.ref f2))) (l2 : K.lookup f2 = some ⟨oc2, od2, .func (PySem.W.fnOf "when_names" "when_names" (defArgs s_when_names) (defBody s_when_names) (defScope s_when_names) .none kV2 dc2 pm2 an2 cd2 ct2), sl2⟩) (c2 : PySem.W.codeIn K cd2 "when_names" = true) (k2 : PySem.W.keepIn K (.ref f2) = true)
    (a3 : PySem.W.nsIn K mainGlobals "placed_rows" = some (some (.ref f3))) (l3 : K.lookup f3 = some ⟨oc3, od3, .func (PySem.W.fnOf "placed_rows" "placed_rows" (defArgs s_placed_rows) (defBody s_placed_rows) (defScope s_placed_rows) .none kV3 dc3 pm3 an3 cd3 ct3), sl3⟩) (c3 : PySem.W.codeIn K cd3 "placed_rows" = true) (k3 : PySem.W.keepIn K (.ref f3) = true)
    (a4 : PySem.W.nsIn K mainGlobals "given_owns" = some (some (.ref f4))) (l4 : K.lookup f4 = some ⟨oc4, od4, .func (PySem.W.fnOf "given_owns" "given_owns" (defArgs s_given_owns) (defBody s_given_owns) (defScope s_given_owns) .none kV4 dc4 pm4 an4 cd4 ct4), sl4⟩) (c4 : PySem.W.codeIn K cd4 "given_owns" = true) (k4 : PySem.W.keepIn K (.ref f4) = true)
    (a5 : PySem.W.nsIn K mainGlobals "links" = some (some (.ref f5))) (l5 : K.lookup f5 = some ⟨oc5, od5, .func (PySem.W.fnOf "links" "links" (defArgs s_links) (defBody s_links) (defScope s_links) .none kV5 dc5 pm5 an5 cd5 ct5), sl5⟩) (c5 : PySem.W.codeIn K cd5 "links" = true) (k5 : PySem.W.keepIn K (.ref f5) = true)
    (a6 : PySem.W.nsIn K mainGlobals "makers" = some (some (.ref f6))) (l6 : K.lookup f6 = some ⟨oc6, od6, .func (PySem.W.fnOf "makers" "makers" (defArgs s_makers) (defBody s_makers) (defScope s_makers) .none kV6 dc6 pm6 an6 cd6 ct6), sl6⟩) (c6 : PySem.W.codeIn K cd6 "makers" = true) (k6 : PySem.W.keepIn K (.ref f6) = true)
    (a7 : PySem.W.nsIn K mainGlobals "made" = some (some (.ref f7))) (l7 : K.lookup f7 = some ⟨oc7, od7, .func (PySem.W.fnOf "made" "made" (defArgs s_made) (defBody s_made) (defScope s_made) .none kV7 dc7 pm7 an7 cd7 ct7), sl7⟩) (c7 : PySem.W.codeIn K cd7 "made" = true) (k7 : PySem.W.keepIn K (.ref f7) = true)
    (a8 : PySem.W.nsIn K mainGlobals "run" = some (some (.ref f8))) (l8 : K.lookup f8 = some ⟨oc8, od8, .func (PySem.W.fnOf "run" "run" (defArgs s_run) (defBody s_run) (defScope s_run) .none kV8 dc8 pm8 an8 cd8 ct8), sl8⟩) (c8 : PySem.W.codeIn K cd8 "run" = true) (k8 : PySem.W.keepIn K (.ref f8) = true)
    (a9 : PySem.W.nsIn K mainGlobals "_law_cell_at" = some (some (.ref f9))) (l9 : K.lookup f9 = some ⟨oc9, od9, .func (PySem.W.fnOf "_law_cell_at" "_law_cell_at" (defArgs s_law_cell_at) (defBody s_law_cell_at) (defScope s_law_cell_at) .none kV9 dc9 pm9 an9 cd9 ct9), sl9⟩) (c9 : PySem.W.codeIn K cd9 "_law_cell_at" = true) (k9 : PySem.W.keepIn K (.ref f9) = true)
    (a10 : PySem.W.nsIn K mainGlobals "_law_whole" = some (some (.ref f10))) (l10 : K.lookup f10 = some ⟨oc10, od10, .func (PySem.W.fnOf "_law_whole" "_law_whole" (defArgs s_law_whole) (defBody s_law_whole) (defScope s_law_whole) .none kV10 dc10 pm10 an10 cd10 ct10), sl10⟩) (c10 : PySem.W.codeIn K cd10 "_law_whole" = true) (k10 : PySem.W.keepIn K (.ref f10) = true)
    (a11 : PySem.W.nsIn K mainGlobals "_law_word" = some (some (.ref f11))) (l11 : K.lookup f11 = some ⟨oc11, od11, .func (PySem.W.fnOf "_law_word" "_law_word" (defArgs s_law_word) (defBody s_law_word) (defScope s_law_word) .none kV11 dc11 pm11 an11 cd11 ct11), sl11⟩) (c11 : PySem.W.codeIn K cd11 "_law_word" = true) (k11 : PySem.W.keepIn K (.ref f11) = true)
    (a12 : PySem.W.nsIn K mainGlobals "_law_number" = some (some (.ref f12))) (l12 : K.lookup f12 = some ⟨oc12, od12, .func (PySem.W.fnOf "_law_number" "_law_number" (defArgs s_law_number) (defBody s_law_number) (defScope s_law_number) .none kV12 dc12 pm12 an12 cd12 ct12), sl12⟩) (c12 : PySem.W.codeIn K cd12 "_law_number" = true) (k12 : PySem.W.keepIn K (.ref f12) = true)
    (a13 : PySem.W.nsIn K mainGlobals "_law_alike" = some (some (.ref f13))) (l13 : K.lookup f13 = some ⟨oc13, od13, .func (PySem.W.fnOf "_law_alike" "_law_alike" (defArgs s_law_alike) (defBody s_law_alike) (defScope s_law_alike) .none kV13 dc13 pm13 an13 cd13 ct13), sl13⟩) (c13 : PySem.W.codeIn K cd13 "_law_alike" = true) (k13 : PySem.W.keepIn K (.ref f13) = true)
    (a14 : PySem.W.nsIn K mainGlobals "law" = some (some (.ref f14))) (l14 : K.lookup f14 = some ⟨oc14, od14, .func (PySem.W.fnOf "law" "law" (defArgs s_law) (defBody s_law) (defScope s_law) .none kV14 dc14 pm14 an14 cd14 ct14), sl14⟩) (c14 : PySem.W.codeIn K cd14 "law" = true) (k14 : PySem.W.keepIn K (.ref f14) = true)
    (a15 : PySem.W.findIn K (.ref CG) "load" = some (some (.ref f15))) (i15 : PySem.W.isFn K (.ref f15) = true) (l15 : K.lookup f15 = some ⟨oc15, od15, .func (PySem.W.fnOf "load" "Going.load" (defArgs s_Going_load) (defBody s_Going_load) (defScope s_Going_load) .none kV15 dc15 pm15 an15 cd15 ct15), sl15⟩) (c15 : PySem.W.codeIn K cd15 "Going.load" = true) (k15 : PySem.W.keepIn K (.ref f15) = true)
    (a16 : PySem.W.findIn K (.ref CG) "begin" = some (some (.ref f16))) (i16 : PySem.W.isFn K (.ref f16) = true) (l16 : K.lookup f16 = some ⟨oc16, od16, .func (PySem.W.fnOf "begin" "Going.begin" (defArgs s_Going_begin) (defBody s_Going_begin) (defScope s_Going_begin) .none kV16 dc16 pm16 an16 cd16 ct16), sl16⟩) (c16 : PySem.W.codeIn K cd16 "Going.begin" = true) (k16 : PySem.W.keepIn K (.ref f16) = true)
    (a17 : PySem.W.findIn K (.ref CG) "go_on" = some (some (.ref f17))) (i17 : PySem.W.isFn K (.ref f17) = true) (l17 : K.lookup f17 = some ⟨oc17, od17, .func (PySem.W.fnOf "go_on" "Going.go_on" (defArgs s_Going_go_on) (defBody s_Going_go_on) (defScope s_Going_go_on) .none kV17 dc17 pm17 an17 cd17 ct17), sl17⟩) (c17 : PySem.W.codeIn K cd17 "Going.go_on" = true) (k17 : PySem.W.keepIn K (.ref f17) = true)
    (a18 : PySem.W.findIn K (.ref CG) "do_row" = some (some (.ref f18))) (i18 : PySem.W.isFn K (.ref f18) = true) (l18 : K.lookup f18 = some ⟨oc18, od18, .func (PySem.W.fnOf "do_row" "Going.do_row" (defArgs s_Going_do_row) (defBody s_Going_do_row) (defScope s_Going_do_row) .none kV18 dc18 pm18 an18 cd18 ct18), sl18⟩) (c18 : PySem.W.codeIn K cd18 "Going.do_row" = true) (k18 : PySem.W.keepIn K (.ref f18) = true)
    (a19 : PySem.W.findIn K (.ref CG) "is_off" = some (some (.ref f19))) (i19 : PySem.W.isFn K (.ref f19) = true) (l19 : K.lookup f19 = some ⟨oc19, od19, .func (PySem.W.fnOf "is_off" "Going.is_off" (defArgs s_Going_is_off) (defBody s_Going_is_off) (defScope s_Going_is_off) .none kV19 dc19 pm19 an19 cd19 ct19), sl19⟩) (c19 : PySem.W.codeIn K cd19 "Going.is_off" = true) (k19 : PySem.W.keepIn K (.ref f19) = true)
    (a20 : PySem.W.findIn K (.ref CG) "early_word" = some (some (.ref f20))) (i20 : PySem.W.isFn K (.ref f20) = true) (l20 : K.lookup f20 = some ⟨oc20, od20, .func (PySem.W.fnOf "early_word" "Going.early_word" (defArgs s_Going_early_word) (defBody s_Going_early_word) (defScope s_Going_early_word) .none kV20 dc20 pm20 an20 cd20 ct20), sl20⟩) (c20 : PySem.W.codeIn K cd20 "Going.early_word" = true) (k20 : PySem.W.keepIn K (.ref f20) = true)
    (a21 : PySem.W.findIn K (.ref CG) "do_work" = some (some (.ref f21))) (i21 : PySem.W.isFn K (.ref f21) = true) (l21 : K.lookup f21 = some ⟨oc21, od21, .func (PySem.W.fnOf "do_work" "Going.do_work" (defArgs s_Going_do_work) (defBody s_Going_do_work) (defScope s_Going_do_work) .none kV21 dc21 pm21 an21 cd21 ct21), sl21⟩) (c21 : PySem.W.codeIn K cd21 "Going.do_work" = true) (k21 : PySem.W.keepIn K (.ref f21) = true)
    (a22 : PySem.W.findIn K (.ref CG) "give" = some (some (.ref f22))) (i22 : PySem.W.isFn K (.ref f22) = true) (l22 : K.lookup f22 = some ⟨oc22, od22, .func (PySem.W.fnOf "give" "Going.give" (defArgs s_Going_give) (defBody s_Going_give) (defScope s_Going_give) .none kV22 dc22 pm22 an22 cd22 ct22), sl22⟩) (c22 : PySem.W.codeIn K cd22 "Going.give" = true) (k22 : PySem.W.keepIn K (.ref f22) = true)
    (a23 : PySem.W.findIn K (.ref CG) "next_told" = some (some (.ref f23))) (i23 : PySem.W.isFn K (.ref f23) = true) (l23 : K.lookup f23 = some ⟨oc23, od23, .func (PySem.W.fnOf "next_told" "Going.next_told" (defArgs s_Going_next_told) (defBody s_Going_next_told) (defScope s_Going_next_told) .none kV23 dc23 pm23 an23 cd23 ct23), sl23⟩) (c23 : PySem.W.codeIn K cd23 "Going.next_told" = true) (k23 : PySem.W.keepIn K (.ref f23) = true)
    (a24 : PySem.W.findIn K (.ref CG) "value_of" = some (some (.ref f24))) (i24 : PySem.W.isFn K (.ref f24) = true) (l24 : K.lookup f24 = some ⟨oc24, od24, .func (PySem.W.fnOf "value_of" "Going.value_of" (defArgs s_Going_value_of) (defBody s_Going_value_of) (defScope s_Going_value_of) .none kV24 dc24 pm24 an24 cd24 ct24), sl24⟩) (c24 : PySem.W.codeIn K cd24 "Going.value_of" = true) (k24 : PySem.W.keepIn K (.ref f24) = true)
    (a25 : PySem.W.findIn K (.ref CG) "thing_value" = some (some (.ref f25))) (i25 : PySem.W.isFn K (.ref f25) = true) (l25 : K.lookup f25 = some ⟨oc25, od25, .func (PySem.W.fnOf "thing_value" "Going.thing_value" (defArgs s_Going_thing_value) (defBody s_Going_thing_value) (defScope s_Going_thing_value) .none kV25 dc25 pm25 an25 cd25 ct25), sl25⟩) (c25 : PySem.W.codeIn K cd25 "Going.thing_value" = true) (k25 : PySem.W.keepIn K (.ref f25) = true)
    (a26 : PySem.W.findIn K (.ref CP) "rows_of" = some (some (.ref f26))) (i26 : PySem.W.isFn K (.ref f26) = true) (l26 : K.lookup f26 = some ⟨oc26, od26, .func (PySem.W.fnOf "rows_of" "PartsWalk.rows_of" (defArgs s_PartsWalk_rows_of) (defBody s_PartsWalk_rows_of) (defScope s_PartsWalk_rows_of) .none kV26 dc26 pm26 an26 cd26 ct26), sl26⟩) (c26 : PySem.W.codeIn K cd26 "PartsWalk.rows_of" = true) (k26 : PySem.W.keepIn K (.ref f26) = true)
    (a27 : PySem.W.findIn K (.ref CP) "key_of" = some (some (.ref f27))) (i27 : PySem.W.isFn K (.ref f27) = true) (l27 : K.lookup f27 = some ⟨oc27, od27, .func (PySem.W.fnOf "key_of" "PartsWalk.key_of" (defArgs s_PartsWalk_key_of) (defBody s_PartsWalk_key_of) (defScope s_PartsWalk_key_of) .none kV27 dc27 pm27 an27 cd27 ct27), sl27⟩) (c27 : PySem.W.codeIn K cd27 "PartsWalk.key_of" = true) (k27 : PySem.W.keepIn K (.ref f27) = true)
    (a28 : PySem.W.findIn K (.ref CP) "loads_of" = some (some (.ref f28))) (i28 : PySem.W.isFn K (.ref f28) = true) (l28 : K.lookup f28 = some ⟨oc28, od28, .func (PySem.W.fnOf "loads_of" "Walk.loads_of" (defArgs s_Walk_loads_of) (defBody s_Walk_loads_of) (defScope s_Walk_loads_of) .none kV28 dc28 pm28 an28 cd28 ct28), sl28⟩) (c28 : PySem.W.codeIn K cd28 "Walk.loads_of" = true) (k28 : PySem.W.keepIn K (.ref f28) = true)
    (a29 : PySem.W.findIn K (.ref CP) "ahead_of" = some (some (.ref f29))) (i29 : PySem.W.isFn K (.ref f29) = true) (l29 : K.lookup f29 = some ⟨oc29, od29, .func (PySem.W.fnOf "ahead_of" "Walk.ahead_of" (defArgs s_Walk_ahead_of) (defBody s_Walk_ahead_of) (defScope s_Walk_ahead_of) .none kV29 dc29 pm29 an29 cd29 ct29), sl29⟩) (c29 : PySem.W.codeIn K cd29 "Walk.ahead_of" = true) (k29 : PySem.W.keepIn K (.ref f29) = true)
    (a30 : PySem.W.findIn K (.ref CP) "go" = some (some (.ref f30))) (i30 : PySem.W.isFn K (.ref f30) = true) (l30 : K.lookup f30 = some ⟨oc30, od30, .func (PySem.W.fnOf "go" "Walk.go" (defArgs s_Walk_go) (defBody s_Walk_go) (defScope s_Walk_go) .none kV30 dc30 pm30 an30 cd30 ct30), sl30⟩) (c30 : PySem.W.codeIn K cd30 "Walk.go" = true) (k30 : PySem.W.keepIn K (.ref f30) = true)
    (a31 : PySem.W.findIn K (.ref CP) "__init__" = some (some (.ref f31))) (i31 : PySem.W.isFn K (.ref f31) = true) (l31 : K.lookup f31 = some ⟨oc31, od31, .func (PySem.W.fnOf "__init__" "PartsWalk.__init__" (defArgs s_PartsWalk___init__) (defBody s_PartsWalk___init__) (defScope s_PartsWalk___init__) .none kV31 dc31 pm31 an31 cd31 ct31), sl31⟩) (c31 : PySem.W.codeIn K cd31 "PartsWalk.__init__" = true) (k31 : PySem.W.keepIn K (.ref f31) = true)
    (a32 : PySem.W.findIn K (.ref CG) "__init__" = some (some (.ref f32))) (i32 : PySem.W.isFn K (.ref f32) = true) (l32 : K.lookup f32 = some ⟨oc32, od32, .func (PySem.W.fnOf "__init__" "Going.__init__" (defArgs s_Going___init__) (defBody s_Going___init__) (defScope s_Going___init__) .none kV32 dc32 pm32 an32 cd32 ct32), sl32⟩) (c32 : PySem.W.codeIn K cd32 "Going.__init__" = true) (k32 : PySem.W.keepIn K (.ref f32) = true)
    (gCP : PySem.W.nsIn K mainGlobals "PartsWalk" = some (some (.ref CP))) (pgCP : PySem.W.plainGet K CP Str.empty = true) (hdCP : PySem.W.hasDictIn K CP = true) (poCP : PySem.W.plainOver K CP = true) (saCP : PySem.W.findIn K (.ref CP) "__setattr__" = some (some (.builtin "object.__setattr__"))) (mkCP : PySem.W.makesIn K CP = true) (kcCP : PySem.W.keepIn K (.ref CP) = true)
    (gCG : PySem.W.nsIn K mainGlobals "Going" = some (some (.ref CG))) (pgCG : PySem.W.plainGet K CG Str.empty = true) (hdCG : PySem.W.hasDictIn K CG = true) (poCG : PySem.W.plainOver K CG = true) (saCG : PySem.W.findIn K (.ref CG) "__setattr__" = some (some (.builtin "object.__setattr__"))) (mkCG : PySem.W.makesIn K CG = true) (kcCG : PySem.W.keepIn K (.ref CG) = true)
    (nGwalk : PySem.W.findIn K (.ref CG) "walk" = some none)
    (nGnumbers : PySem.W.findIn K (.ref CG) "numbers" = some none)
    (nGtaken : PySem.W.findIn K (.ref CG) "taken" = some none)
    (nGbegun : PySem.W.findIn K (.ref CG) "begun" = some none)
    (nGloaded : PySem.W.findIn K (.ref CG) "loaded" = some none)
    (nGgiven : PySem.W.findIn K (.ref CG) "given" = some none)
    (nGwaiting : PySem.W.findIn K (.ref CG) "waiting" = some none)
    (nGtrace : PySem.W.findIn K (.ref CG) "trace" = some none)
    (nGfault : PySem.W.findIn K (.ref CG) "fault" = some none)
    (nProws : PySem.W.findIn K (.ref CP) "rows" = some none)
    (nPmakers : PySem.W.findIn K (.ref CP) "makers" = some none)
    (z0 : PySem.W.nsIn K mainGlobals "len" = some none)
    (z1 : PySem.W.nsIn K mainGlobals "range" = some none)
    (z2 : PySem.W.nsIn K mainGlobals "str" = some none)
    (z3 : PySem.W.nsIn K mainGlobals "tuple" = some none)
    (z4 : PySem.W.nsIn K mainGlobals "list" = some none)
    (z5 : PySem.W.nsIn K mainGlobals "dict" = some none)
    (z6 : PySem.W.nsIn K mainGlobals "enumerate" = some none)
    (z7 : PySem.W.nsIn K mainGlobals "isinstance" = some none)
    (z8 : PySem.W.nsIn K mainGlobals "reversed" = some none)
    (z9 : PySem.W.nsIn K mainGlobals "int" = some none)
    (z10 : PySem.W.nsIn K mainGlobals "bool" = some none) :
    ∃ fd : FuncData, (∀ (s : Shared) (v : Value), BindsTo s fd ⟨[v], []⟩ [("_law_script", v)]) ∧ ∀ base : Heap, K.In base → base.Ns mainGlobals mg → FnOk l.prog w K mg base CX0 11 fa fd ["_law_script"] (spLaw K) := by
  have e := hfa.symm.trans (PySem.W.mg_of X G a14)
  cases e
  have T0 : Txt K mg := ⟨PySem.W.mg_none_of X G z0, PySem.W.mg_none_of X G z1, PySem.W.mg_none_of X G z2, PySem.W.mg_none_of X G z3, PySem.W.mg_none_of X G z4, PySem.W.mg_none_of X G z5, PySem.W.mg_none_of X G z6, PySem.W.mg_none_of X G z7, PySem.W.mg_none_of X G z8, PySem.W.mg_none_of X G z9, PySem.W.mg_none_of X G z10, hasDef_mk X G a0 l0 c0 k0, hasDef_mk X G a1 l1 c1 k1, hasDef_mk X G a2 l2 c2 k2, hasDef_mk X G a3 l3 c3 k3, hasDef_mk X G a4 l4 c4 k4, hasDef_mk X G a5 l5 c5 k5, hasDef_mk X G a6 l6 c6 k6, hasDef_mk X G a7 l7 c7 k7, hasDef_mk X G a8 l8 c8 k8, hasDef_mk X G a9 l9 c9 k9, hasDef_mk X G a10 l10 c10 k10, hasDef_mk X G a11 l11 c11 k11, hasDef_mk X G a12 l12 c12 k12, hasDef_mk X G a13 l13 c13 k13⟩
  have T : Tc K mg CP CG := ⟨T0, ⟨pgCP, hdCP, poCP, saCP⟩, ⟨pgCG, hdCG, poCG, saCG⟩, PySem.W.mg_of X G gCP, PySem.W.mg_of X G gCG, nGwalk, nGnumbers, nGtaken, nGbegun, nGloaded, nGgiven, nGwaiting, nGtrace, nGfault, nProws, nPmakers, hasM_mk a15 i15 l15 c15 k15, hasM_mk a16 i16 l16 c16 k16, hasM_mk a17 i17 l17 c17 k17, hasM_mk a18 i18 l18 c18 k18, hasM_mk a19 i19 l19 c19 k19, hasM_mk a20 i20 l20 c20 k20, hasM_mk a21 i21 l21 c21 k21, hasM_mk a22 i22 l22 c22 k22, hasM_mk a23 i23 l23 c23 k23, hasM_mk a24 i24 l24 c24 k24, hasM_mk a25 i25 l25 c25 k25, hasM_mk a26 i26 l26 c26 k26, hasM_mk a27 i27 l27 c27 k27, hasM_mk a28 i28 l28 c28 k28, hasM_mk a29 i29 l29 c29 k29, hasM_mk a30 i30 l30 c30 k30, hasI_mk mkCP a31 i31 kcCP l31 c31 k31, hasI_mk mkCG a32 i32 kcCG l32 c32 k32⟩
  exact ⟨_, fun s v => .of_eq rfl, fun base _ _ => law_fn (fun_mk (st := s_law) l14 c14 k14) T⟩
theorem walk {l : PySem.W.OpenLaw} {q : Program} {loose : List Str} {XP : (Str → Option Value) → Heap → Prop} {YP : World → Heap → Prop} {d : DefRec} {K : Params → PySem.W.Frag} (hn : l.most = some 63) (hdf : d.params.defaults = [])
    (hY : ∀ (w : World) (h : Heap), YP w h → (K w.params).In h)
    (F : ∀ (w : World) (mg : Str → Option Value) (fa : Addr) (h : Heap), (K w.params).In h → h.Ns mainGlobals mg → mg d.name = some (.ref fa) →
      ∃ fd : FuncData, (∀ (s : Shared) (u : Value), BindsTo s fd ⟨[u], []⟩ [("_law_script", u)]) ∧ ∀ base : Heap, (K w.params).In base → base.Ns mainGlobals mg → FnOk l.prog w (K w.params) mg base CX0 11 fa fd ["_law_script"] (spLaw (K w.params))) :
    PySem.W.WalkO q loose XP YP l.row.toRowW d [] (fun f vs => PySem.call f vs) :=
  L2.walk_of (n := 63) (k := 11) (x := "_law_script") (CX := fun _ => CX0) (sp := fun w => spLaw (K w.params)) hn (by decide) hdf ⟨rfl, by decide, by decide⟩ hY F (fun _ _ a ns hl _ hS => ⟨a, ns, rfl, hS, hl, fun _ => rfl⟩) fun _ _ _ _ _ z => z
end K20
open PySem PySem.W PyProof.Rows
set_option maxRecDepth 100000 in
set_option maxHeartbeats 0 in
theorem PySem.Challenge.cw_bundlehouse_k20_taken_and_said_holds : PySem.Challenge.rw_bundlehouse_k20_taken_and_said.Holds := by
  w_on; o_law; k_head; (case hw => w_witness2)
  k_fill
  refine K20.walk (l := PySem.Challenge.rw_bundlehouse_k20_taken_and_said) rfl rfl (fun w h Y => PySem.W.kIn_of Y) ?F
  case F =>
    intro w mg fa h KX G hmg
    refine' K20.all_mk KX G hmg ?a0 ?l0 ?c0 ?k0 ?a1 ?l1 ?c1 ?k1 ?a2 ?l2 ?c2 ?k2 ?a3 ?l3 ?c3 ?k3 ?a4 ?l4 ?c4 ?k4 ?a5 ?l5 ?c5 ?k5 ?a6 ?l6 ?c6 ?k6 ?a7 ?l7 ?c7 ?k7 ?a8 ?l8 ?c8 ?k8 ?a9 ?l9 ?c9 ?k9 ?a10 ?l10 ?c10 ?k10 ?a11 ?l11 ?c11 ?k11 ?a12 ?l12 ?c12 ?k12 ?a13 ?l13 ?c13 ?k13 ?a14 ?l14 ?c14 ?k14 ?a15 ?i15 ?l15 ?c15 ?k15 ?a16 ?i16 ?l16 ?c16 ?k16 ?a17 ?i17 ?l17 ?c17 ?k17 ?a18 ?i18 ?l18 ?c18 ?k18 ?a19 ?i19 ?l19 ?c19 ?k19 ?a20 ?i20 ?l20 ?c20 ?k20 ?a21 ?i21 ?l21 ?c21 ?k21 ?a22 ?i22 ?l22 ?c22 ?k22 ?a23 ?i23 ?l23 ?c23 ?k23 ?a24 ?i24 ?l24 ?c24 ?k24 ?a25 ?i25 ?l25 ?c25 ?k25 ?a26 ?i26 ?l26 ?c26 ?k26 ?a27 ?i27 ?l27 ?c27 ?k27 ?a28 ?i28 ?l28 ?c28 ?k28 ?a29 ?i29 ?l29 ?c29 ?k29 ?a30 ?i30 ?l30 ?c30 ?k30 ?a31 ?i31 ?l31 ?c31 ?k31 ?a32 ?i32 ?l32 ?c32 ?k32 ?gCP ?pgCP ?hdCP ?poCP ?saCP ?mkCP ?kcCP ?gCG ?pgCG ?hdCG ?poCG ?saCG ?mkCG ?kcCG ?nGwalk ?nGnumbers ?nGtaken ?nGbegun ?nGloaded ?nGgiven ?nGwaiting ?nGtrace ?nGfault ?nProws ?nPmakers ?z0 ?z1 ?z2 ?z3 ?z4 ?z5 ?z6 ?z7 ?z8 ?z9 ?z10
    (case gCP => k_is)
    (case gCG => k_is)
    (case a0 => k_is)
    (case l0 => k_is)
    (case c0 => k_is)
    (case k0 => k_is)
    (case a1 => k_is)
    (case l1 => k_is)
    (case c1 => k_is)
    (case k1 => k_is)
    (case a2 => k_is)
    (case l2 => k_is)
    (case c2 => k_is)
    (case k2 => k_is)
    (case a3 => k_is)
    (case l3 => k_is)
    (case c3 => k_is)
    (case k3 => k_is)
    (case a4 => k_is)
    (case l4 => k_is)
    (case c4 => k_is)
    (case k4 => k_is)
    (case a5 => k_is)
    (case l5 => k_is)
    (case c5 => k_is)
    (case k5 => k_is)
    (case a6 => k_is)
    (case l6 => k_is)
    (case c6 => k_is)
    (case k6 => k_is)
    (case a7 => k_is)
    (case l7 => k_is)
    (case c7 => k_is)
    (case k7 => k_is)
    (case a8 => k_is)
    (case l8 => k_is)
    (case c8 => k_is)
    (case k8 => k_is)
    (case a9 => k_is)
    (case l9 => k_is)
    (case c9 => k_is)
    (case k9 => k_is)
    (case a10 => k_is)
    (case l10 => k_is)
    (case c10 => k_is)
    (case k10 => k_is)
    (case a11 => k_is)
    (case l11 => k_is)
    (case c11 => k_is)
    (case k11 => k_is)
    (case a12 => k_is)
    (case l12 => k_is)
    (case c12 => k_is)
    (case k12 => k_is)
    (case a13 => k_is)
    (case l13 => k_is)
    (case c13 => k_is)
    (case k13 => k_is)
    (case a14 => k_is)
    (case l14 => k_is)
    (case c14 => k_is)
    (case k14 => k_is)
    (case a15 => k_is)
    (case i15 => k_is)
    (case l15 => k_is)
    (case c15 => k_is)
    (case k15 => k_is)
    (case a16 => k_is)
    (case i16 => k_is)
    (case l16 => k_is)
    (case c16 => k_is)
    (case k16 => k_is)
    (case a17 => k_is)
    (case i17 => k_is)
    (case l17 => k_is)
    (case c17 => k_is)
    (case k17 => k_is)
    (case a18 => k_is)
    (case i18 => k_is)
    (case l18 => k_is)
    (case c18 => k_is)
    (case k18 => k_is)
    (case a19 => k_is)
    (case i19 => k_is)
    (case l19 => k_is)
    (case c19 => k_is)
    (case k19 => k_is)
    (case a20 => k_is)
    (case i20 => k_is)
    (case l20 => k_is)
    (case c20 => k_is)
    (case k20 => k_is)
    (case a21 => k_is)
    (case i21 => k_is)
    (case l21 => k_is)
    (case c21 => k_is)
    (case k21 => k_is)
    (case a22 => k_is)
    (case i22 => k_is)
    (case l22 => k_is)
    (case c22 => k_is)
    (case k22 => k_is)
    (case a23 => k_is)
    (case i23 => k_is)
    (case l23 => k_is)
    (case c23 => k_is)
    (case k23 => k_is)
    (case a24 => k_is)
    (case i24 => k_is)
    (case l24 => k_is)
    (case c24 => k_is)
    (case k24 => k_is)
    (case a25 => k_is)
    (case i25 => k_is)
    (case l25 => k_is)
    (case c25 => k_is)
    (case k25 => k_is)
    (case a26 => k_is)
    (case i26 => k_is)
    (case l26 => k_is)
    (case c26 => k_is)
    (case k26 => k_is)
    (case a27 => k_is)
    (case i27 => k_is)
    (case l27 => k_is)
    (case c27 => k_is)
    (case k27 => k_is)
    (case a28 => k_is)
    (case i28 => k_is)
    (case l28 => k_is)
    (case c28 => k_is)
    (case k28 => k_is)
    (case a29 => k_is)
    (case i29 => k_is)
    (case l29 => k_is)
    (case c29 => k_is)
    (case k29 => k_is)
    (case a30 => k_is)
    (case i30 => k_is)
    (case l30 => k_is)
    (case c30 => k_is)
    (case k30 => k_is)
    (case a31 => k_is)
    (case i31 => k_is)
    (case l31 => k_is)
    (case c31 => k_is)
    (case k31 => k_is)
    (case a32 => k_is)
    (case i32 => k_is)
    (case l32 => k_is)
    (case c32 => k_is)
    (case k32 => k_is)
    (case pgCP => k_is)
    (case hdCP => k_is)
    (case poCP => k_is)
    (case saCP => k_is)
    (case mkCP => k_is)
    (case kcCP => k_is)
    (case pgCG => k_is)
    (case hdCG => k_is)
    (case poCG => k_is)
    (case saCG => k_is)
    (case mkCG => k_is)
    (case kcCG => k_is)
    (case nGwalk => k_is)
    (case nGnumbers => k_is)
    (case nGtaken => k_is)
    (case nGbegun => k_is)
    (case nGloaded => k_is)
    (case nGgiven => k_is)
    (case nGwaiting => k_is)
    (case nGtrace => k_is)
    (case nGfault => k_is)
    (case nProws => k_is)
    (case nPmakers => k_is)
    (case z0 => k_is)
    (case z1 => k_is)
    (case z2 => k_is)
    (case z3 => k_is)
    (case z4 => k_is)
    (case z5 => k_is)
    (case z6 => k_is)
    (case z7 => k_is)
    (case z8 => k_is)
    (case z9 => k_is)
    (case z10 => k_is)