import PyProof.Rows.All
import Wide.All
import OpenK.AllK
import Wide.FinOn
import Lean
import PyProof.EqAt
import PyProof.EqKinds
import PyProof.TupleCall
import PySem.Challenge.RW_bundlehouse_k59_whole_prices_are_loads
set_option Elab.async false
set_option linter.all false
set_option maxRecDepth 100000
namespace L2
open PySem PySem.Spec PyProof.Rows
noncomputable abbrev Key := Sum Int Str
noncomputable def keyIs : Key → Value → Bool
  | .inl k, v => Value.isInt k v
  | .inr x, v => Value.isStrOf x v
noncomputable def keyH (w : World) : Key → Int
  | .inl k => hashInt k
  | .inr x => hashStr w x
theorem keyIs_shape : ∀ {k : Key} {v : Value}, keyIs k v = true → (∃ i t, k = Sum.inl i ∧ v = Value.int i t) ∨ (∃ x t, k = Sum.inr x ∧ v = Value.str x t)
  | .inl i, v, h => by
    obtain ⟨t, e⟩ := Value.isInt_shape (k := i) (v := v) h
    exact .inl ⟨i, t, rfl, e⟩
  | .inr x, v, h => by
    obtain ⟨t, e⟩ := Value.isStrOf_shape (x := x) (v := v) h
    exact .inr ⟨x, t, rfl, e⟩
theorem keyIs_int (i : Int) (t : Tok) : keyIs (.inl i) (.int i t) = true := by simp [keyIs, Value.isInt]
theorem keyIs_str (x : Str) (t : Tok) : keyIs (.inr x) (.str x t) = true := by simp [keyIs, Value.isStrOf]
theorem key_ll (a b : Int) : decide ((Sum.inl a : Key) = Sum.inl b) = (a == b) := by
  by_cases e : a = b
  · subst e; simp
  · have h : ¬ (Sum.inl a : Key) = Sum.inl b := fun q => e (Sum.inl.inj q)
    rw [decide_eq_false h]
    exact (beq_eq_false_iff_ne.mpr e).symm
theorem key_rr (a b : Str) : decide ((Sum.inr a : Key) = Sum.inr b) = decide (a = b) := by
  by_cases e : a = b
  · subst e; simp
  · have h : ¬ (Sum.inr a : Key) = Sum.inr b := fun q => e (Sum.inr.inj q)
    rw [decide_eq_false h, decide_eq_false e]
theorem key_lr (a : Int) (b : Str) : decide ((Sum.inl a : Key) = Sum.inr b) = false := decide_eq_false (fun q => nomatch q)
theorem key_rl (a : Str) (b : Int) : decide ((Sum.inr a : Key) = Sum.inl b) = false := decide_eq_false (fun q => nomatch q)
noncomputable def mixKind (prog : Program) (w : World) : PySem.KeyKind prog w Key where
  is := keyIs
  hash := keyH w
  inj := fun v a b ha hb => by
    rcases keyIs_shape ha with ⟨i, t, rfl, rfl⟩ | ⟨x, t, rfl, rfl⟩
    · rcases keyIs_shape hb with ⟨j, u, rfl, e⟩ | ⟨y, u, rfl, e⟩
      · injection e with e1 _; rw [e1]
      · exact nomatch e
    · rcases keyIs_shape hb with ⟨j, u, rfl, e⟩ | ⟨y, u, rfl, e⟩
      · exact nomatch e
      · injection e with e1 _; rw [e1]
  byValue := fun k v h => by
    rcases keyIs_shape h with ⟨i, t, rfl, rfl⟩ | ⟨x, t, rfl, rfl⟩ <;> rfl
  pyHash := fun hv h => by
    rcases keyIs_shape hv with ⟨i, t, rfl, rfl⟩ | ⟨x, t, rfl, rfl⟩
    · exact wpAny_pyHash_int h
    · exact wpAny_pyHash_str h
  eqBool := fun hu hv h => by
    rcases keyIs_shape hu with ⟨i, t, rfl, rfl⟩ | ⟨x, t, rfl, rfl⟩
    · rcases keyIs_shape hv with ⟨j, u, rfl, rfl⟩ | ⟨y, u, rfl, rfl⟩
      · rw [key_ll] at h; exact wpAny_eqBool_int h
      · rw [key_lr] at h; exact SeqAt.EqAt.int_str i t y u _ _ _ _ h
    · rcases keyIs_shape hv with ⟨j, u, rfl, rfl⟩ | ⟨y, u, rfl, rfl⟩
      · rw [key_rl] at h; exact SeqAt.EqAt.str_int x t j u _ _ _ _ h
      · rw [key_rr] at h; exact wpAny_eqBool_str h
  «strs» := fun k x t v h => by
    rcases keyIs_shape h with ⟨i, u, rfl, e⟩ | ⟨y, u, rfl, e⟩
    · exact nomatch e
    · injection e with e1 _
      subst e1
      cases v <;> rfl
theorem mixKind_int (prog : Program) (w : World) (i : Int) (t : Tok) : (mixKind prog w).is (.inl i) (.int i t) = true := keyIs_int i t
theorem mixKind_str (prog : Program) (w : World) (x : Str) (t : Tok) : (mixKind prog w).is (.inr x) (.str x t) = true := keyIs_str x t
end L2
namespace L2
open PySem PySem.Spec PyProof.Rows
inductive V where
  | non | bl (b : Bool) | int (i : Int) | str (x : Str) | byt (b : Array UInt8) | flt (b : UInt64) | ref (a : Addr) | ty (n : String)
  deriving DecidableEq
noncomputable def RelV : V → Value → Prop
  | .non, u => u = Value.none
  | .bl b, u => u = Value.bool b
  | .int i, u => ∃ t, u = Value.int i t
  | .str x, u => ∃ t, u = Value.str x t
  | .byt b, u => ∃ t, u = Value.bytes b t
  | .flt b, u => ∃ t, u = Value.float b t
  | .ref a, u => u = Value.ref a
  | .ty n, u => u = Value.type n
noncomputable abbrev Vals : List V → List Value → Prop := Paired RelV
theorem Vals.length {xs : List V} {us : List Value} (r : Vals xs us) : xs.length = us.length := Paired.length r
theorem Vals.get : ∀ {xs : List V} {us : List Value} {i : Nat} {x : V}, Vals xs us → xs[i]? = some x → ∃ u, us[i]? = some u ∧ RelV x u
  | _, _, _, _, .nil, e => by simp at e
  | _, _, 0, _, .cons r _, e => by simp at e; subst e; exact ⟨_, rfl, r⟩
  | _, _, i + 1, x, .cons _ t, e => by
    obtain ⟨u, h1, h2⟩ := Vals.get (i := i) (x := x) t (by simpa using e)
    exact ⟨u, by simpa using h1, h2⟩
theorem Vals.append : ∀ {xs ys : List V} {us ws : List Value}, Vals xs us → Vals ys ws → Vals (xs ++ ys) (us ++ ws)
  | _, _, _, _, .nil, s => s
  | _, _, _, _, .cons r t, s => .cons r (Vals.append t s)
theorem Vals.take : ∀ {xs : List V} {us : List Value} (n : Nat), Vals xs us → Vals (xs.take n) (us.take n)
  | _, _, 0, _ => .nil
  | _, _, _ + 1, .nil => .nil
  | _, _, n + 1, .cons r t => .cons r (Vals.take n t)
theorem Vals.drop : ∀ {xs : List V} {us : List Value} (n : Nat), Vals xs us → Vals (xs.drop n) (us.drop n)
  | _, _, 0, r => r
  | _, _, _ + 1, .nil => .nil
  | _, _, n + 1, .cons _ t => Vals.drop n t
noncomputable def RelO : Option V → Option Value → Prop
  | some v, some u => RelV v u
  | none, none => True
  | _, _ => False
noncomputable def KV {κ : Type} : List (κ × V) → List (κ × Value) → Prop := Paired fun (p : κ × V) (q : κ × Value) => p.1 = q.1 ∧ RelV p.2 q.2
noncomputable def kV : Key → V
  | .inl i => .int i
  | .inr x => .str x
inductive HO where
  | lst (xs : List V)
  | tup (xs : List V)
  | dK (kvs : List (Key × V)) | dT (kvs : List (List Key × V))
  | set (S : Int → Bool) (n : Nat)
  | ins (C dx : Addr) (fs : List (Str × V))
  | own (x : Addr)
  | xd (fs : List (Str × V))
  | met (f x : Addr)
  | rng (lo hi : Int)
  | frz (o : Obj) (u : HO)
  | tbl (ps : Array Value)
  | ext (φ : Heap → Prop)
noncomputable abbrev Hp := Addr → Option HO
noncomputable def upd (H : Hp) (a : Addr) (o : HO) : Hp := fun b => if b = a then some o else H b
theorem upd_same {H : Hp} {a : Addr} {o : HO} : upd H a o a = some o := by unfold upd; rw [if_pos rfl]
theorem upd_ne {H : Hp} {a b : Addr} {o : HO} (h : b ≠ a) : upd H a o b = H b := by unfold upd; rw [if_neg h]
theorem upd_upd {H : Hp} {a : Addr} {o u : HO} : upd (upd H a o) a u = upd H a u := by
  funext b; unfold upd; split <;> rfl
theorem ne_of {H : Hp} {a b : Addr} {o u : HO} (h : H a = some o) (h' : H b = some u) (d : o ≠ u) : a ≠ b := by
  intro e; subst e; rw [h] at h'; exact d (Option.some.inj h')
theorem ne_of_none {H : Hp} {a b : Addr} {o : HO} (h : H a = some o) (h' : H b = none) : a ≠ b := by
  intro e; subst e; rw [h] at h'; cases h'
section
variable (P : Program) (w : World)
noncomputable def ObjOk (H : Hp) (h : Heap) (a : Addr) : HO → Prop
  | .lst xs => xs.length ≤ sizeLine ∧ ∃ (its : List Value) (n : Nat), Vals xs its ∧ h.get? a = some { cls := .type "list", data := .seq its.toArray n }
  | .tup xs => xs.length ≤ sizeLine ∧ ∃ its : List Value, Vals xs its ∧ IsTup h a its.toArray
  | .dK kvs => kvs.length ≤ sizeLine ∧ (a == sysModules) = false ∧ ∃ vs, KV kvs vs ∧ h.DictOf (mixKind P w) a vs
  | .dT kvs => kvs.length ≤ sizeLine ∧ (a == sysModules) = false ∧ ∃ xs : List (List Key × Addr × Value),
      Paired (fun (p : List Key × V) (q : List Key × Addr × Value) => p.1 = q.1 ∧ H q.2.1 = some (.tup (p.1.map kV)) ∧ RelV p.2 q.2.2) kvs xs ∧
      ∃ o es ep, h.get? a = some o ∧ o.ExactDict ∧ o.data = .dict es ep ∧ es.toList = xs.map (entryOfKey (tupleKind (mixKind P w))) ∧ (xs.map (·.1)).Nodup
  | .set S n => h.SetOf (intKind P w) a S n
  | .ins C dx fs => H dx = some (.own a) ∧ fs.length ≤ 1000 ∧ dx ≠ a ∧ h.get? a = some (PySem.W.instObj C dx) ∧
      ∃ mA, h.Ns1 dx mA ∧ (∀ f, RelO (fs.lookup f) (mA f)) ∧ PySem.Within mA (fs.map (·.1))
  | .own _ => ∃ o, h.get? a = some o
  | .xd fs => ∃ mA, h.Ns1 a mA ∧ ∀ f, RelO (fs.lookup f) (mA f)
  | .rng lo hi => ∃ t u v, h.get? a = some { cls := .type "range", data := .fields #[.int lo t, .int hi u, .int 1 v] }
  | .frz o u => h.get? a = some o ∧ ObjOk H h a u
  | .tbl ps => h.get? a = some { cls := .none, data := .fields ps }
  | .met f x => h.get? a = some (PySem.W.methodObj (.ref f) (.ref x))
  | .ext φ => φ h ∧ (∃ o, h.get? a = some o) ∧ ∀ h1 h2 : Heap, φ h1 → (∀ o, h1.get? a = some o → h2.get? a = some o) → φ h2
noncomputable def HOk (H : Hp) (h : Heap) : Prop := ∀ a o, H a = some o → ObjOk P w H h a o
end
section
variable {P : Program} {w : World} {H H' : Hp} {h h' : Heap} {a : Addr} {o : HO}
theorem ObjOk.lt (x : ObjOk P w H h a o) : a < h.objs.size := by
  cases o with
  | lst xs => obtain ⟨_, _, _, _, e⟩ := x; exact Heap.lt_size e
  | tup xs => obtain ⟨_, _, _, p⟩ := x; exact p.lt
  | dK kvs => obtain ⟨_, _, _, _, o, _, _, e, _⟩ := x; exact Heap.lt_size e
  | dT kvs => obtain ⟨_, _, _, _, o, _, _, e, _⟩ := x; exact Heap.lt_size e
  | set S n => obtain ⟨o, _, _, _, e, _⟩ := x; exact Heap.lt_size e
  | ins C dx fs => obtain ⟨_, _, _, e, _⟩ := x; exact Heap.lt_size e
  | own y => obtain ⟨_, e⟩ := x; exact Heap.lt_size e
  | xd fs => obtain ⟨_, ⟨_, _, _, e, _⟩, _⟩ := x; exact Heap.lt_size e
  | rng lo hi => obtain ⟨_, _, _, e⟩ := x; exact Heap.lt_size e
  | frz ob u => obtain ⟨e, _⟩ := x; exact Heap.lt_size e
  | tbl ps => exact Heap.lt_size (show h.get? a = some _ from x)
  | met f y => exact Heap.lt_size (show h.get? a = some _ from x)
  | ext φ => obtain ⟨_, ⟨_, e⟩, _⟩ := x; exact Heap.lt_size e
theorem Paired.mapP {α β : Type} {F G : α → β → Prop} : ∀ {l₁ : List α} {l₂ : List β}, Paired F l₁ l₂ → (∀ a b, F a b → G a b) → Paired G l₁ l₂
  | _, _, .nil, _ => .nil
  | _, _, .cons r t, f => .cons (f _ _ r) (Paired.mapP t f)
theorem ObjOk.stay (x : ObjOk P w H h a o) (k : ∀ b u, (b = a ∨ H b = some (.own a)) → h.get? b = some u → h'.get? b = some u)
    (ho : ∀ b, H b = some (.own a) → H' b = some (.own a)) (ht : ∀ b xs, H b = some (.tup xs) → H' b = some (.tup xs)) : ObjOk P w H' h' a o := by
  induction o with
  | lst xs => obtain ⟨z, its, n, r, e⟩ := x; exact ⟨z, its, n, r, k _ _ (.inl rfl) e⟩
  | tup xs => obtain ⟨z, its, r, ob, e, c⟩ := x; exact ⟨z, its, r, ob, k _ _ (.inl rfl) e, c⟩
  | dK kvs => obtain ⟨z, y, vs, r, ob, es, ep, e, c⟩ := x; exact ⟨z, y, vs, r, ob, es, ep, k _ _ (.inl rfl) e, c⟩
  | dT kvs =>
    obtain ⟨z, y, xs, r, ob, es, ep, e, c⟩ := x
    exact ⟨z, y, xs, Paired.mapP r fun p q z => ⟨z.1, ht _ _ z.2.1, z.2.2⟩, ob, es, ep, k _ _ (.inl rfl) e, c⟩
  | set S n => obtain ⟨ob, es, ep, t, e, c⟩ := x; exact ⟨ob, es, ep, t, k _ _ (.inl rfl) e, c⟩
  | ins C dx fs =>
    obtain ⟨d, z, ne, e, mA, ⟨od, es, ep, e2, c⟩, r⟩ := x
    exact ⟨ho _ d, z, ne, k _ _ (.inl rfl) e, mA, ⟨od, es, ep, k _ _ (.inr d) e2, c⟩, r⟩
  | own y => obtain ⟨ob, e⟩ := x; exact ⟨ob, k _ _ (.inl rfl) e⟩
  | xd fs => obtain ⟨mA, ⟨od, es, ep, e, c⟩, r⟩ := x; exact ⟨mA, ⟨od, es, ep, k _ _ (.inl rfl) e, c⟩, r⟩
  | rng lo hi => obtain ⟨t, u, v, e⟩ := x; exact ⟨t, u, v, k _ _ (.inl rfl) e⟩
  | frz ob u ih => obtain ⟨e, q⟩ := x; exact ⟨k _ _ (.inl rfl) e, ih q⟩
  | tbl ps =>
    have e : h.get? a = some { cls := .none, data := .fields ps } := x
    show h'.get? a = some { cls := .none, data := .fields ps }
    exact k a _ (.inl rfl) e
  | met f y =>
    have e : h.get? a = some (PySem.W.methodObj (.ref f) (.ref y)) := x
    show h'.get? a = some (PySem.W.methodObj (.ref f) (.ref y))
    exact k a _ (.inl rfl) e
  | ext φ => obtain ⟨p, ⟨o, e⟩, st⟩ := x; exact ⟨st _ _ p fun o q => k _ _ (.inl rfl) q, ⟨o, k _ _ (.inl rfl) e⟩, st⟩
theorem HOk.lt (x : HOk P w H h) (e : H a = some o) : a < h.objs.size := (x a o e).lt
theorem HOk.fresh (x : HOk P w H h) (e : h.objs.size ≤ a) : H a = none := by
  cases q : H a with
  | none => rfl
  | some u => exact absurd (Nat.lt_of_lt_of_le (x.lt q) e) (Nat.lt_irrefl _)
theorem HOk.kept (x : HOk P w H h) (k : ∀ b u, h.get? b = some u → h'.get? b = some u) : HOk P w H h' := fun a o e =>
  (x a o e).stay (fun b u _ q => k b u q) (fun _ q => q) fun _ _ q => q
theorem HOk.laid (x : HOk P w H h) (k : ∀ b u, h.get? b = some u → h'.get? b = some u) (hp : h.objs.size ≤ a) (new : ObjOk P w (upd H a o) h' a o) : HOk P w (upd H a o) h' := fun b u e => by
  have hn := x.fresh hp
  by_cases hb : b = a
  · subst hb; rw [upd_same] at e; cases e; exact new
  · rw [upd_ne hb] at e
    exact (x b u e).stay (fun c v _ q => k c v q) (fun c q => by rw [upd_ne (ne_of_none q hn)]; exact q) fun c xs q => by rw [upd_ne (ne_of_none q hn)]; exact q
end
noncomputable def Rd (H : Hp) (a : Addr) (u : HO) : Prop := H a = some u ∨ ∃ o, H a = some (.frz o u)
theorem Rd.of {H : Hp} {a : Addr} {u : HO} (h : H a = some u) : Rd H a u := .inl h
theorem Rd.ok {P : Program} {w : World} {H : Hp} {h : Heap} {a : Addr} {u : HO} (r : Rd H a u) (x : HOk P w H h) : ObjOk P w H h a u := by
  rcases r with r | ⟨o, r⟩
  · exact x a u r
  · obtain ⟨_, q⟩ := x a _ r
    exact q
noncomputable def Mut : Option HO → Prop
  | some (.lst _) => True
  | some (.dK _) => True
  | some (.dT _) => True
  | some (.set _ _) => True
  | some (.ins _ _ _) => True
  | some (.ext _) => True
  | _ => False
section
variable {P : Program} {w : World} {H : Hp} {h h' : Heap} {x e : Addr} {o' : HO}
theorem HOk.write (ok : HOk P w H h) (mu : Mut (H x)) (he : e = x ∨ H e = some (.own x)) (k : ∀ b u, b ≠ e → h.get? b = some u → h'.get? b = some u) (heo : ∃ u, h'.get? e = some u)
    (new : ObjOk P w (upd H x o') h' x o') : HOk P w (upd H x o') h' := fun b u q => by
  have nown : ∀ c y, H c = some (.own y) → c ≠ x := fun c y r z => by subst z; rw [r] at mu; exact mu
  have ntup : ∀ c xs, H c = some (.tup xs) → c ≠ x := fun c xs r z => by subst z; rw [r] at mu; exact mu
  by_cases hb : b = x
  · subst hb; rw [upd_same] at q; cases q; exact new
  · rw [upd_ne hb] at q
    by_cases hbe : b = e
    · have q' : H b = some (.own x) := by
        rcases he with z | z
        · exact absurd (hbe.trans z) hb
        · rw [hbe]; exact z
      rw [q] at q'; cases q'
      obtain ⟨v, hv⟩ := heo
      exact ⟨v, by rw [hbe]; exact hv⟩
    · refine (ok b u q).stay (fun c v hc r => k c v ?_ r) (fun c r => by rw [upd_ne (nown c b r)]; exact r) fun c xs r => by rw [upd_ne (ntup c xs r)]; exact r
      rcases hc with rfl | hc
      · exact hbe
      · rintro rfl
        rcases he with z | z
        · exact nown c b hc z
        · rw [hc] at z; cases z; exact hb rfl
end
structure Un (fs ex : List Addr) (H H' : Hp) (h h' : Heap) : Prop where
  keep : ∀ b o, h.get? b = some o → H b = none → b ∉ fs → b ∉ ex → h'.get? b = some o
  slot : ∀ b o, h.get? b = some o → H b = none → b ∈ fs → b ∉ ex → ∃ sl, h'.get? b = some { o with slots := sl }
  free : ∀ b o, h.get? b = some o → H b = none → b ∉ ex → H' b = none
  there : ∀ b o, h.get? b = some o → b ∉ ex → ∃ o', h'.get? b = some o'
  tups : ∀ b xs, H b = some (.tup xs) → H' b = some (.tup xs)
  frzs : ∀ b o u, H b = some (.frz o u) → H' b = some (.frz o u)
  tbls : ∀ b ps, H b = some (.tbl ps) → ∃ more, H' b = some (.tbl (ps ++ more))
section
variable {fs fs' ex ex' : List Addr} {H H1 H2 : Hp} {h h1 h2 h' : Heap} {a x e : Addr} {o : HO}
theorem Un.any (u : Un fs ex H H1 h h1) {b : Addr} {ob : Obj} (q : h.get? b = some ob) (n : H b = none) (hx : b ∉ ex) : ∃ sl, h1.get? b = some { ob with slots := sl } := by
  by_cases hb : b ∈ fs
  · exact u.slot b ob q n hb hx
  · exact ⟨ob.slots, u.keep b ob q n hb hx⟩
theorem Un.kept (k : ∀ b u, h.get? b = some u → h'.get? b = some u) : Un fs ex H H h h' :=
  ⟨fun b ob q _ _ _ => k b ob q, fun b ob q _ _ _ => ⟨ob.slots, k b ob q⟩, fun _ _ _ n _ => n, fun b ob q _ => ⟨ob, k b ob q⟩, fun _ _ q => q, fun _ _ _ q => q, fun _ ps q => ⟨#[], by rw [q]; simp⟩⟩
theorem Un.refl : Un fs ex H H h h := Un.kept fun _ _ q => q
theorem Un.laid (k : ∀ b u, h.get? b = some u → h'.get? b = some u) (hp : h.objs.size ≤ a) (hn : H a = none) : Un fs ex H (upd H a o) h h' where
  keep := fun b u q _ _ _ => k b u q
  slot := fun b u q _ _ _ => ⟨u.slots, k b u q⟩
  free := fun b u q n _ => by rw [upd_ne (Nat.ne_of_lt (Nat.lt_of_lt_of_le (Heap.lt_size q) hp))]; exact n
  there := fun b u q _ => ⟨u, k b u q⟩
  tups := fun b xs q => by rw [upd_ne (ne_of_none q hn)]; exact q
  frzs := fun b u xs q => by rw [upd_ne (ne_of_none q hn)]; exact q
  tbls := fun b ps q => ⟨#[], by rw [upd_ne (ne_of_none q hn), q]; simp⟩
theorem Un.write (mu : Mut (H x)) (he : e = x ∨ H e = some (.own x)) (k : ∀ b u, b ≠ e → h.get? b = some u → h'.get? b = some u) (heo : ∃ u, h'.get? e = some u) : Un fs ex H (upd H x o) h h' := by
  have hx : ∀ b, H b = none → b ≠ x := fun b n z => by subst z; rw [n] at mu; exact mu
  have hb : ∀ b, H b = none → b ≠ e := fun b n z => by
    subst z
    rcases he with r | r
    · exact hx b n r
    · rw [n] at r; cases r
  have hm : ∀ b u, H b = some u → ¬ Mut (some u) → b ≠ x := fun b u q nm z => by subst z; rw [q] at mu; exact nm mu
  refine ⟨fun b u q n _ _ => k b u (hb b n) q, fun b u q n _ _ => ⟨u.slots, k b u (hb b n) q⟩, fun b u q n _ => by rw [upd_ne (hx b n)]; exact n, fun b u q _ => ?_,
    fun b xs q => by rw [upd_ne (hm b _ q fun z => z)]; exact q, fun b u xs q => by rw [upd_ne (hm b _ q fun z => z)]; exact q, fun b ps q => ⟨#[], by rw [upd_ne (hm b _ q fun z => z), q]; simp⟩⟩
  by_cases hbe : b = e
  · subst hbe; exact heo
  · exact ⟨u, k b u hbe q⟩
end
noncomputable def trk (h : Heap) (H : Hp) : List Addr := (List.range h.objs.size).filter fun a => (H a).isSome
noncomputable def hidT (h : Heap) (H : Hp) : Heap := PySem.W.hideAll h (trk h H)
theorem hidT_size (h : Heap) (H : Hp) : (hidT h H).objs.size = h.objs.size := PySem.W.hideAll_size _ _
theorem hidT_get {h : Heap} {H : Hp} {b : Addr} {o : Obj} (e : h.get? b = some o) (n : H b = none) : (hidT h H).get? b = some o :=
  PySem.W.hideAll_get _ e fun hm => by
    have q : (H b).isSome = true := (List.mem_filter.mp hm).2
    rw [n] at q; simp at q
theorem of_hidT {h : Heap} {H : Hp} {b : Addr} {o : Obj} (e : (hidT h H).get? b = some o) : h.get? b = some o ∧ H b = none := by
  have e' : h.get? b = some o := PySem.W.of_hideAll (trk h H) e
  refine ⟨e', ?_⟩
  cases q : H b with
  | none => rfl
  | some x =>
    have hm : b ∈ trk h H := List.mem_filter.mpr ⟨List.mem_range.mpr (Heap.lt_size e'), by simp [q]⟩
    have z : (hidT h H).get? b = none := PySem.W.hideAll_none (trk h H) hm
    rw [z] at e; cases e
end L2
namespace L2
open PySem PySem.Spec PyProof.Rows
structure Mod (K : PySem.W.Frag) (mg : Str → Option Value) (base : Heap) : Prop where
  kin : K.In base
  glob : base.Ns mainGlobals mg
  blt : ∃ mb, base.Ns builtinsNs mb ∧ ∀ x : Str, x ≠ "__name__" → mb x = bootBuiltins x
  nolimit : base.NoLimit
structure Cx where
  prog : Program
  w : World
  K : PySem.W.Frag
  mg : Str → Option Value
  base : Heap
  A : Around
  N : List Str
  s₀ : Shared
  H₀ : Hp
  env : Env
  outer : List Env
  stack : List Env
  ex : List Addr
  fn : Str → Bool
  calm : Bool
  pn : List (Addr × Obj)
  xe : Value → Shared → Prop
noncomputable def frs (l : List Env) : List Addr := l.filterMap (·.frame)
noncomputable abbrev Cx.fs (X : Cx) : List Addr := frs X.outer
noncomputable def Vis (sc : Scope) (x : Str) : Prop := sc.names.lookup x = some .local ∨ sc.names.lookup x = some .cell ∨ sc.names.lookup x = some .free
noncomputable def Loc (sc : Scope) (x : Str) : Prop := sc.names.lookup x = some .local ∨ sc.names.lookup x = some .cell
noncomputable def Look (env : Env) (h : Heap) (m : Str → Option Value) (x : Str) (u : Value) : Prop :=
  (env.kindOf x = some .local ∧ m x = some u) ∨ ((env.kindOf x = some .cell ∨ env.kindOf x = some .free) ∧ ∃ c, env.cells.lookup x = some c ∧ h.IsCell c (some u))
structure Cx.Ok (X : Cx) : Prop where
  mod : Mod X.K X.mg X.base
  kind : X.env.scope.kind = .function
  glob : X.env.globals = mainGlobals
  blt : X.env.builtins = builtinsNs
  above : X.s₀.heap.objs.size ≤ X.env.locals
  inj : ∀ x y c, X.env.cells.lookup x = some c → X.env.cells.lookup y = some c → x = y
  has : ∀ x, (X.env.kindOf x = some .cell ∨ X.env.kindOf x = some .free) → ∃ c, X.env.cells.lookup x = some c
  cab : ∀ x c, X.fn x = true → X.env.cells.lookup x = some c → X.s₀.heap.objs.size ≤ c
  hd : X.calm = true → X.A.handled = none
  frames : X.A.frames = some X.stack
  stk : X.stack = X.outer ∨ (X.stack = X.env :: X.outer ∧ X.env.frame = some X.env.locals)
  exf : ∀ b ∈ X.ex, b ≠ X.env.locals ∧ ∀ x c, X.env.cells.lookup x = some c → c ≠ b
  bs : ∀ b o, X.base.get? b = some o → X.s₀.heap.get? b = some o ∧ X.H₀ b = none
  bsz : X.base.objs.size ≤ X.s₀.heap.objs.size
  noex : ∀ b o, X.base.get? b = some o → b ∉ X.ex
  exfs : ∀ b ∈ X.ex, b ∉ X.fs
  funs : X.s₀.heap.FunFrames X.base X.outer
  frf : ∀ b ∈ X.fs, X.H₀ b = none
structure Inv (X : Cx) (pins : List (Addr × Obj)) (σ : List (Option V)) (H : Hp) (s : Shared) : Prop where
  ok : X.Ok
  os : s.os = X.s₀.os
  bare : AllBare s.gens
  base : Un X.fs X.ex X.H₀ H X.s₀.heap s.heap
  loc : ∃ m, s.heap.Ns X.env.locals m ∧ ∀ (i : Nat) (x : Str) (v : V), X.N[i]? = some x → σ[i]? = some (some v) → Vis X.env.scope x → ∃ u, RelV v u ∧ Look X.env s.heap m x u
  cell : ∀ x c, X.env.cells.lookup x = some c → ∃ v, s.heap.IsCell c v
  free : H X.env.locals = none
  freeC : ∀ x c, X.env.cells.lookup x = some c → H c = none
  pin : ∀ p ∈ X.pn ++ pins, s.heap.get? p.1 = some p.2 ∧ H p.1 = none ∧ p.1 ≠ X.env.locals ∧ p.1 ∉ X.fs ∧ ∀ v, p.2.data ≠ .cell v
  hok : HOk X.prog X.w H s.heap
  len : σ.length = X.N.length
section
variable {X : Cx} {pins : List (Addr × Obj)} {σ : List (Option V)} {H H' : Hp} {s : Shared} {h' : Heap}
theorem Cx.Ok.nofr (ok : X.Ok) {b : Addr} {o : Obj} (e : X.base.get? b = some o) : b ∉ X.fs := fun hb => by
  have := (ok.funs.mem hb).1
  rw [e] at this; cases this
theorem Inv.bs (I : Inv X pins σ H s) : ∀ b o, X.base.get? b = some o → s.heap.get? b = some o ∧ H b = none := fun b o e =>
  ⟨I.base.keep b o (I.ok.bs b o e).1 (I.ok.bs b o e).2 (I.ok.nofr e) (I.ok.noex b o e), I.base.free b o (I.ok.bs b o e).1 (I.ok.bs b o e).2 (I.ok.noex b o e)⟩
theorem Inv.bk (I : Inv X pins σ H s) : ∀ b o, X.base.get? b = some o → s.heap.get? b = some o := fun b o e => (I.bs b o e).1
theorem Inv.mod (I : Inv X pins σ H s) : Mod X.K X.mg X.base := I.ok.mod
theorem Inv.kIn (I : Inv X pins σ H s) : X.K.In s.heap := I.ok.mod.kin.keeps I.bk
theorem Inv.lt (I : Inv X pins σ H s) : X.env.locals < s.heap.objs.size := let ⟨_, hn, _⟩ := I.loc; hn.lt
theorem Inv.sz (I : Inv X pins σ H s) : X.s₀.heap.objs.size ≤ s.heap.objs.size := Nat.le_trans I.ok.above (Nat.le_of_lt I.lt)
theorem Inv.nofs (I : Inv X pins σ H s) {a : Addr} (h : s.heap.objs.size ≤ a) : a ∉ X.fs := fun hb => by
  obtain ⟨_, o, ho, _⟩ := I.ok.funs.mem hb
  exact absurd (Nat.lt_of_lt_of_le (Heap.lt_size ho) (Nat.le_trans I.sz h)) (Nat.lt_irrefl _)
theorem Inv.cne (I : Inv X pins σ H s) : ∀ x c, X.env.cells.lookup x = some c → c ≠ X.env.locals := fun x c e z => by
  obtain ⟨v, o, ho, hd⟩ := I.cell x c e
  obtain ⟨m, ⟨o', es, ep, ho', hd', _⟩, _⟩ := I.loc
  rw [z, ho'] at ho; cases ho; rw [hd'] at hd; cases hd
theorem Inv.funs (I : Inv X pins σ H s) : s.heap.FunFrames X.base X.outer := by
  have all : ∀ (l : List Env), (∀ b ∈ frs l, b ∈ X.fs) → X.s₀.heap.FunFrames X.base l → s.heap.FunFrames X.base l := by
    intro l
    induction l with
    | nil => intro _ _; trivial
    | cons env r ih =>
      intro hs hl
      obtain ⟨hk, ⟨L, o, hf, hn, ho, hd⟩, hr⟩ := hl
      have hL : L ∈ X.fs := hs L (by unfold frs; rw [List.filterMap_cons, hf]; exact List.mem_cons_self)
      obtain ⟨sl, e⟩ := I.base.slot L o ho (I.ok.frf L hL) hL fun z => I.ok.exfs L z hL
      exact ⟨hk, ⟨L, _, hf, hn, e, hd⟩, ih (fun b hb => hs b (by unfold frs; rw [List.filterMap_cons, hf]; exact List.mem_cons_of_mem _ hb)) hr⟩
  exact all X.outer (fun _ hb => hb) I.ok.funs
theorem Inv.stack (I : Inv X pins σ H s) : s.heap.FunFrames X.base X.stack := by
  rcases I.ok.stk with e | ⟨e, hf⟩
  · rw [e]; exact I.funs
  · rw [e]
    obtain ⟨m, hn, _⟩ := I.loc
    refine .cons (by rw [I.ok.kind]; decide) hf hn ?_ I.funs
    exact Heap.get?_none_of_le (Nat.le_trans I.ok.bsz I.ok.above)
theorem Inv.stkSub (I : Inv X pins σ H s) : ∀ b ∈ frs X.stack, b ∈ X.env.locals :: X.fs := fun b hb => by
  rcases I.ok.stk with e | ⟨e, hf⟩
  · rw [e] at hb; exact List.mem_cons_of_mem _ hb
  · rw [e] at hb
    unfold frs at hb
    rw [List.filterMap_cons, hf] at hb
    exact hb
theorem Inv.stkFree (I : Inv X pins σ H s) : ∀ b ∈ frs X.stack, H b = none := fun b hb => by
  rcases List.mem_cons.mp (I.stkSub b hb) with e | hb
  · rw [e]; exact I.free
  · obtain ⟨_, o, ho, _⟩ := I.ok.funs.mem hb
    exact I.base.free b o ho (I.ok.frf b hb) fun z => I.ok.exfs b z hb
theorem Inv.step {g' : Array GenState} {t' : Nat} {d' : Drawn} {ch : List Addr} (I : Inv X pins σ H s)
    (hch : ∀ b ∈ ch, (b ∈ X.ex ∨ X.s₀.heap.objs.size ≤ b) ∧ b ≠ X.env.locals ∧ (∀ x c, X.env.cells.lookup x = some c → c ≠ b) ∧ ∀ p ∈ X.pn ++ pins, p.1 ≠ b)
    (keep : ∀ b o, b ≠ X.env.locals → b ∉ X.fs → b ∉ ch → s.heap.get? b = some o → H b = none → h'.get? b = some o)
    (slot : ∀ b o, b ≠ X.env.locals → b ∈ X.fs → b ∉ ch → s.heap.get? b = some o → H b = none → ∃ sl, h'.get? b = some { o with slots := sl }) (free : ∀ b o, b ∉ ch → s.heap.get? b = some o → H b = none → H' b = none)
    (there : ∀ b o, b ∉ ch → s.heap.get? b = some o → ∃ o', h'.get? b = some o')
    (tups : ∀ b xs, H b = some (.tup xs) → H' b = some (.tup xs)) (frzs : ∀ b o u, H b = some (.frz o u) → H' b = some (.frz o u)) (tbls : ∀ b ps, H b = some (.tbl ps) → ∃ more, H' b = some (.tbl (ps ++ more)))
    (ns : ∀ m, s.heap.Ns X.env.locals m → h'.Ns X.env.locals m) (hok : HOk X.prog X.w H' h') (hg : AllBare g') :
    Inv X pins σ H' { s with heap := h', gens := g', drawn := d', toks := t' } := by
  have neL : ∀ b o, X.s₀.heap.get? b = some o → b ≠ X.env.locals := fun b o e => Nat.ne_of_lt (Nat.lt_of_lt_of_le (Heap.lt_size e) I.ok.above)
  have neC : ∀ b o, X.s₀.heap.get? b = some o → b ∉ X.ex → b ∉ ch := fun b o e hx hb => by
    rcases (hch b hb).1 with z | z
    · exact hx z
    · exact absurd (Nat.lt_of_lt_of_le (Heap.lt_size e) z) (Nat.lt_irrefl _)
  have cellK : ∀ x c, X.env.cells.lookup x = some c → ∀ v, s.heap.IsCell c v → h'.IsCell c v := fun x c e v ⟨o, ho, hd⟩ => by
    have nch : c ∉ ch := fun z => (hch c z).2.2.1 x c e rfl
    by_cases hc : c ∈ X.fs
    · obtain ⟨sl, q⟩ := slot c o (I.cne x c e) hc nch ho (I.freeC x c e)
      exact ⟨_, q, hd⟩
    · exact ⟨o, keep c o (I.cne x c e) hc nch ho (I.freeC x c e), hd⟩
  refine ⟨I.ok, I.os, hg, ⟨fun b o e n hb hx => ?_, fun b o e n hb hx => ?_, fun b o e n hx => ?_, fun b o e hx => ?_, fun b xs e => tups b xs (I.base.tups b xs e), fun b o xs e => frzs b o xs (I.base.frzs b o xs e), fun b ps e => ?_⟩, ?_, fun x c e => ?_, ?_, fun x c e => ?_, fun p hp => ?_, hok, I.len⟩
  · exact keep b o (neL b o e) hb (neC b o e hx) (I.base.keep b o e n hb hx) (I.base.free b o e n hx)
  · obtain ⟨sl, e1⟩ := I.base.slot b o e n hb hx
    obtain ⟨sl', e2⟩ := slot b _ (neL b o e) hb (neC b o e hx) e1 (I.base.free b o e n hx)
    exact ⟨sl', e2⟩
  · obtain ⟨o', e1⟩ := I.base.there b o e hx
    exact free b o' (neC b o e hx) e1 (I.base.free b o e n hx)
  · obtain ⟨o', e1⟩ := I.base.there b o e hx
    exact there b o' (neC b o e hx) e1
  · obtain ⟨m1, e1⟩ := I.base.tbls b ps e
    obtain ⟨m2, e2⟩ := tbls b _ e1
    exact ⟨m1 ++ m2, by rw [e2, Array.append_assoc]⟩
  · obtain ⟨m, hn, hl⟩ := I.loc
    refine ⟨m, ns m hn, fun i x v e1 e2 e3 => ?_⟩
    obtain ⟨u, r, l⟩ := hl i x v e1 e2 e3
    refine ⟨u, r, ?_⟩
    rcases l with l | ⟨k, c, e, z⟩
    · exact .inl l
    · exact .inr ⟨k, c, e, cellK x c e _ z⟩
  · obtain ⟨v, z⟩ := I.cell x c e
    exact ⟨v, cellK x c e v z⟩
  · obtain ⟨m, ⟨o, _, _, ho, _⟩, _⟩ := I.loc
    exact free _ o (fun z => (hch _ z).2.1 rfl) ho I.free
  · obtain ⟨v, o, ho, hd⟩ := I.cell x c e
    exact free c o (fun z => (hch c z).2.2.1 x c e rfl) ho (I.freeC x c e)
  · obtain ⟨e, n, ne, nf, d⟩ := I.pin p hp
    have nch : p.1 ∉ ch := fun z => (hch p.1 z).2.2.2 p hp rfl
    exact ⟨keep p.1 p.2 ne nf nch e n, free p.1 p.2 nch e n, ne, nf, d⟩
theorem Inv.un {t' : Nat} (I : Inv X pins σ H s) (u : Un X.fs [] H H' s.heap h') (hok : HOk X.prog X.w H' h') : Inv X pins σ H' { s with heap := h', toks := t' } := by
  obtain ⟨m, ⟨o, es, ep, ho, r⟩, _⟩ := id I.loc
  obtain ⟨sl, hL⟩ := u.any ho I.free (by simp)
  exact I.step (g' := s.gens) (d' := s.drawn) (ch := []) (fun _ z => nomatch z) (fun b o _ hb _ e n => u.keep b o e n hb (by simp)) (fun b o _ hb _ e n => u.slot b o e n hb (by simp)) (fun b o _ e n => u.free b o e n (by simp)) (fun b o _ e => u.there b o e (by simp)) u.tups u.frzs u.tbls (fun m' hm => by
    obtain ⟨o', es', ep', ho', r'⟩ := hm
    rw [ho] at ho'; cases ho'
    exact ⟨_, es', ep', hL, r'⟩) hok I.bare
theorem Inv.call {g' : Array GenState} {t' : Nat} {d' : Drawn} {ch : List Addr} (I : Inv X pins σ H s) (u : Un (frs X.stack) ch H H' s.heap h') (hok : HOk X.prog X.w H' h') (hg : AllBare g')
    (hch : ∀ b ∈ ch, (b ∈ X.ex ∨ X.s₀.heap.objs.size ≤ b) ∧ b ≠ X.env.locals ∧ (∀ x c, X.env.cells.lookup x = some c → c ≠ b) ∧ ∀ p ∈ X.pn ++ pins, p.1 ≠ b) :
    Inv X pins σ H' { s with heap := h', gens := g', drawn := d', toks := t' } := by
  obtain ⟨m, ⟨o, es, ep, ho, r⟩, _⟩ := id I.loc
  obtain ⟨sl, hL⟩ := u.any ho I.free fun z => (hch _ z).2.1 rfl
  exact I.step (ch := ch) hch (fun b o hL hb hc e n => u.keep b o e n (fun z => (List.mem_cons.mp (I.stkSub b z)).elim hL hb) hc) (fun b o _ _ hc e n => u.any e n hc) (fun b o hc e n => u.free b o e n hc) (fun b o hc e => u.there b o e hc) u.tups u.frzs u.tbls (fun m' hm => by
    obtain ⟨o', es', ep', ho', r'⟩ := hm
    rw [ho] at ho'; cases ho'
    exact ⟨_, es', ep', hL, r'⟩) hok hg
theorem Inv.turned {t' : Nat} {it : Addr} (I : Inv X pins σ H s) (k : ∀ b o, b ≠ it → s.heap.get? b = some o → h'.get? b = some o) (hn : H it = none) (hL : it ≠ X.env.locals)
    (h1 : it ∈ X.ex ∨ X.s₀.heap.objs.size ≤ it) (h2 : ∀ x c, X.env.cells.lookup x = some c → c ≠ it) (h3 : ∀ p ∈ X.pn ++ pins, p.1 ≠ it) : Inv X pins σ H { s with heap := h', toks := t' } := by
  have nit : ∀ b u, H b = some u → b ≠ it := fun b u e z => by rw [z, hn] at e; cases e
  refine I.step (g' := s.gens) (d' := s.drawn) (ch := [it]) (fun b hb => ?_) (fun b o _ _ hc e _ => k b o (fun z => hc (by simp [z])) e) (fun b o _ _ hc e _ => ⟨o.slots, k b o (fun z => hc (by simp [z])) e⟩) (fun _ _ _ _ n => n)
    (fun b o hc e => ⟨o, k b o (fun z => hc (by simp [z])) e⟩) (fun _ _ e => e) (fun _ _ _ e => e) (fun b ps e => ⟨#[], by rw [e]; simp⟩) (fun m hm => ?_) (fun b u e => ?_) I.bare
  · have e : b = it := by simpa using hb
    subst e
    exact ⟨h1, hL, h2, h3⟩
  · obtain ⟨o, es, ep, ho, r⟩ := hm
    exact ⟨o, es, ep, k _ o (Ne.symm hL) ho, r⟩
  · refine (I.hok b u e).stay (fun c v hc q => k c v ?_ q) (fun _ q => q) fun _ _ q => q
    rcases hc with z | z
    · rw [z]; exact nit b u e
    · exact nit c _ z
theorem Inv.tok (I : Inv X pins σ H s) (t : Nat) : Inv X pins σ H { s with toks := t } := I.un (h' := s.heap) (t' := t) Un.refl I.hok
theorem Inv.kept {t' : Nat} (I : Inv X pins σ H s) (k : ∀ b u, s.heap.get? b = some u → h'.get? b = some u) : Inv X pins σ H { s with heap := h', toks := t' } := I.un (Un.kept k) (I.hok.kept k)
theorem Inv.laid {a : Addr} {o : HO} {t' : Nat} (I : Inv X pins σ H s) (k : ∀ b u, s.heap.get? b = some u → h'.get? b = some u) (hp : s.heap.objs.size ≤ a) (new : ObjOk X.prog X.w (upd H a o) h' a o) :
    Inv X pins σ (upd H a o) { s with heap := h', toks := t' } := I.un (Un.laid k hp (I.hok.fresh hp)) (I.hok.laid k hp new)
theorem Inv.write {x e : Addr} {o : HO} {t' : Nat} (I : Inv X pins σ H s) (mu : Mut (H x)) (he : e = x ∨ H e = some (.own x)) (k : ∀ b u, b ≠ e → s.heap.get? b = some u → h'.get? b = some u) (heo : ∃ u, h'.get? e = some u)
    (new : ObjOk X.prog X.w (upd H x o) h' x o) : Inv X pins σ (upd H x o) { s with heap := h', toks := t' } := I.un (Un.write mu he k heo) (I.hok.write mu he k heo new)
theorem Inv.pins_of {pins' : List (Addr × Obj)} (I : Inv X pins σ H s) (h : ∀ p ∈ pins', s.heap.get? p.1 = some p.2 ∧ H p.1 = none ∧ p.1 ≠ X.env.locals ∧ p.1 ∉ X.fs ∧ ∀ v, p.2.data ≠ .cell v) : Inv X pins' σ H s :=
  ⟨I.ok, I.os, I.bare, I.base, I.loc, I.cell, I.free, I.freeC, fun p hp => (List.mem_append.mp hp).elim (fun z => I.pin p (List.mem_append_left _ z)) (h p), I.hok, I.len⟩
theorem nodup_ix {N : List Str} (hN : N.Nodup) {i j : Nat} {x : Str} (a : N[i]? = some x) (b : N[j]? = some x) : i = j := by
  obtain ⟨h1, e1⟩ := List.getElem?_eq_some_iff.mp a
  obtain ⟨h2, e2⟩ := List.getElem?_eq_some_iff.mp b
  exact (List.getElem_inj hN).mp (e1.trans e2.symm)
theorem store_ok2 {M : Model} {A : Around} {E : Value → Shared → Prop} {i : Nat} {x : Str} {v : V} {u : Value} {Q : Unit → Shared → Prop} (I : Inv X pins σ H s) (hN : X.N.Nodup) (hi : X.N[i]? = some x) (hx : Loc X.env.scope x) (r : RelV v u)
    (h : ∀ s', Inv X pins (σ.set i (some v)) H s' → (∃ a, Heap.SameBut a s.heap s'.heap ∧ (a = X.env.locals ∨ X.env.cells.lookup x = some a)) → Q () s') (hf : X.fn x = true ∨ X.env.scope.names.lookup x = some .local := by first | exact .inl rfl | exact .inr rfl | assumption) : wpAny M A (storeName X.env x u) Q E s := by
  obtain ⟨m, hn, hl⟩ := id I.loc
  have hcls : (X.env.scope.kind == .class || (X.env.scope.kind == .module && X.env.locals != X.env.globals)) = false := by rw [I.ok.kind]; rfl
  have hiσ : i < σ.length := by rw [I.len]; exact (List.getElem?_eq_some_iff.mp hi).1
  have cne := I.cne
  have tracked : ∀ {a : Addr} {h' : Heap}, (∃ o, s.heap.get? a = some o ∧ H a = none) → Heap.SameBut a s.heap h' → HOk X.prog X.w H h' := fun {a h'} ha hs b ob e => by
    obtain ⟨_, _, hfree⟩ := ha
    refine (I.hok b ob e).stay (fun c w' hc q => (hs.2 c ?_).trans q) (fun _ q => q) fun _ _ q => q
    rintro rfl
    rcases hc with rfl | hc
    · rw [hfree] at e; cases e
    · rw [hfree] at hc; cases hc
  rcases hx with hk | hk
  · refine wpAny_storeName_local hk hn (fun h' hn' hs => ?_) hcls
    obtain ⟨oL, _, _, hoL, _⟩ := id hn
    refine h _ ⟨I.ok, I.os, I.bare, ⟨fun b o e n hb hx => ?_, fun b o e n hb hx => ?_, I.base.free, fun b o e hx => ?_, I.base.tups, I.base.frzs, I.base.tbls⟩, ⟨_, hn', fun j y v' e1 e2 e3 => ?_⟩, fun y c e => ?_, I.free, I.freeC, fun p hp => ?_, tracked ⟨oL, hoL, I.free⟩ hs, by simpa using I.len⟩ ⟨_, hs, .inl rfl⟩
    · exact (hs.2 b (Nat.ne_of_lt (Nat.lt_of_lt_of_le (Heap.lt_size e) I.ok.above))).trans (I.base.keep b o e n hb hx)
    · obtain ⟨sl, e1⟩ := I.base.slot b o e n hb hx
      exact ⟨sl, (hs.2 b (Nat.ne_of_lt (Nat.lt_of_lt_of_le (Heap.lt_size e) I.ok.above))).trans e1⟩
    · obtain ⟨o', e1⟩ := I.base.there b o e hx
      exact ⟨o', (hs.2 b (Nat.ne_of_lt (Nat.lt_of_lt_of_le (Heap.lt_size e) I.ok.above))).trans e1⟩
    · by_cases hj : j = i
      · subst hj
        rw [hi] at e1; cases e1
        rw [List.getElem?_set_self hiσ] at e2
        cases e2
        exact ⟨u, r, .inl ⟨hk, by simp⟩⟩
      · rw [List.getElem?_set_ne (Ne.symm hj)] at e2
        obtain ⟨u', r', q⟩ := hl j y v' e1 e2 e3
        refine ⟨u', r', ?_⟩
        rcases q with ⟨k, e⟩ | ⟨k, c, e, z⟩
        · refine .inl ⟨k, ?_⟩
          have : y ≠ x := fun e => hj (nodup_ix hN e1 (e ▸ hi))
          simp [this, e]
        · exact .inr ⟨k, c, e, z.sameBut hs (cne y c e)⟩
    · obtain ⟨w', z⟩ := I.cell y c e
      exact ⟨w', z.sameBut hs (cne y c e)⟩
    · obtain ⟨e, n, ne, nf, d⟩ := I.pin p hp
      exact ⟨(hs.2 p.1 ne).trans e, n, ne, nf, d⟩
  · have hfn : X.fn x = true := by
      rcases hf with z | z
      · exact z
      · rw [z] at hk; cases hk
    obtain ⟨c, hc⟩ := I.ok.has x (.inl hk)
    obtain ⟨w', z⟩ := I.cell x c hc
    refine wpAny_storeName_cell I.ok.kind hk hc z (fun h' hc' hs => ?_)
    obtain ⟨oc, hoc, hocd⟩ := id z
    refine h { s with heap := h' } ⟨I.ok, I.os, I.bare, ⟨fun b o e n hb hx => ?_, fun b o e n hb hx => ?_, I.base.free, fun b o e hx => ?_, I.base.tups, I.base.frzs, I.base.tbls⟩, ⟨m, hn.sameBut hs (Ne.symm (cne x c hc)), fun j y v' e1 e2 e3 => ?_⟩, fun y c' e => ?_, I.free, I.freeC, fun p hp => ?_, tracked ⟨oc, hoc, I.freeC x c hc⟩ hs, by simpa using I.len⟩ ⟨c, hs, .inr hc⟩
    · exact (hs.2 b (Nat.ne_of_lt (Nat.lt_of_lt_of_le (Heap.lt_size e) (I.ok.cab x c hfn hc)))).trans (I.base.keep b o e n hb hx)
    · obtain ⟨sl, e1⟩ := I.base.slot b o e n hb hx
      exact ⟨sl, (hs.2 b (Nat.ne_of_lt (Nat.lt_of_lt_of_le (Heap.lt_size e) (I.ok.cab x c hfn hc)))).trans e1⟩
    · obtain ⟨o', e1⟩ := I.base.there b o e hx
      exact ⟨o', (hs.2 b (Nat.ne_of_lt (Nat.lt_of_lt_of_le (Heap.lt_size e) (I.ok.cab x c hfn hc)))).trans e1⟩
    · by_cases hj : j = i
      · subst hj
        rw [hi] at e1; cases e1
        rw [List.getElem?_set_self hiσ] at e2
        cases e2
        exact ⟨u, r, .inr ⟨.inl hk, c, hc, hc'⟩⟩
      · rw [List.getElem?_set_ne (Ne.symm hj)] at e2
        obtain ⟨u', r', q⟩ := hl j y v' e1 e2 e3
        refine ⟨u', r', ?_⟩
        rcases q with q | ⟨k, c', e, z'⟩
        · exact .inl q
        · refine .inr ⟨k, c', e, z'.sameBut hs ?_⟩
          rintro rfl
          exact hj (nodup_ix hN e1 (I.ok.inj _ _ _ e hc ▸ hi))
    · by_cases hcc : c' = c
      · subst hcc; exact ⟨_, hc'⟩
      · obtain ⟨w2, z2⟩ := I.cell y c' e
        exact ⟨w2, z2.sameBut hs hcc⟩
    · obtain ⟨e, n, ne, nf, d⟩ := I.pin p hp
      refine ⟨(hs.2 p.1 ?_).trans e, n, ne, nf, d⟩
      intro q
      rw [q, hoc] at e
      have q' : oc = p.2 := Option.some.inj e
      exact d w' (by rw [← q']; exact hocd)
theorem store_ok {M : Model} {A : Around} {E : Value → Shared → Prop} {i : Nat} {x : Str} {v : V} {u : Value} {Q : Unit → Shared → Prop} (I : Inv X pins σ H s) (hN : X.N.Nodup) (hi : X.N[i]? = some x) (hx : Loc X.env.scope x) (r : RelV v u)
    (h : ∀ s', Inv X pins (σ.set i (some v)) H s' → Q () s') (hf : X.fn x = true ∨ X.env.scope.names.lookup x = some .local := by first | exact .inl rfl | exact .inr rfl | assumption) : wpAny M A (storeName X.env x u) Q E s :=
  store_ok2 I hN hi hx r (fun s' I' _ => h s' I') hf
theorem Inv.call' {s' : Shared} {ch : List Addr} (I : Inv X pins σ H s) (ho : s'.os = s.os) (u : Un (frs X.stack) ch H H' s.heap s'.heap) (hok : HOk X.prog X.w H' s'.heap) (hg : AllBare s'.gens)
    (hch : ∀ b ∈ ch, (b ∈ X.ex ∨ X.s₀.heap.objs.size ≤ b) ∧ b ≠ X.env.locals ∧ (∀ x c, X.env.cells.lookup x = some c → c ≠ b) ∧ ∀ p ∈ X.pn ++ pins, p.1 ≠ b) : Inv X pins σ H' s' := by
  obtain ⟨h', g', d', t', o'⟩ := s'
  have e : o' = s.os := ho
  subst e
  exact I.call (g' := g') (t' := t') (d' := d') u hok hg hch
end
noncomputable abbrev XK := Value → Option Addr → Hp → Prop
noncomputable abbrev St := List (Option V)
noncomputable abbrev VK := V → Hp → Prop
noncomputable abbrev TE := St → Hp → VK → Prop
noncomputable abbrev TT := St → Hp → (Bool → Hp → Prop) → Prop
noncomputable abbrev TA := St → Hp → (List V → Hp → Prop) → Prop
structure Ends where
  nx : St → Hp → Prop
  rt : VK
  bk : St → Hp → Prop := fun _ _ => False
  ct : St → Hp → Prop := fun _ _ => False
noncomputable abbrev TS := Ends → St → Hp → Prop
noncomputable def EP (X : Cx) (pins : List (Addr × Obj)) (σ : St) (Q : VK) (u : Value) (s' : Shared) : Prop := ∃ v H', Inv X pins σ H' s' ∧ RelV v u ∧ Q v H'
noncomputable def TP (X : Cx) (pins : List (Addr × Obj)) (σ : St) (Q : Bool → Hp → Prop) (b : Bool) (s' : Shared) : Prop := ∃ H', Inv X pins σ H' s' ∧ Q b H'
noncomputable def AP (X : Cx) (pins : List (Addr × Obj)) (σ : St) (Q : List V → Hp → Prop) (us : List Value) (s' : Shared) : Prop := ∃ vs H', Inv X pins σ H' s' ∧ Vals vs us ∧ Q vs H'
noncomputable def SP (X : Cx) (pins : List (Addr × Obj)) (D : Ends) (f : Flow) (s' : Shared) : Prop :=
  match f with
  | .next => ∃ σ' H', Inv X pins σ' H' s' ∧ D.nx σ' H'
  | .brk => ∃ σ' H', Inv X pins σ' H' s' ∧ D.bk σ' H'
  | .cont => ∃ σ' H', Inv X pins σ' H' s' ∧ D.ct σ' H'
  | .ret u => ∃ v σ' H', Inv X pins σ' H' s' ∧ RelV v u ∧ D.rt v H'
noncomputable def PE (X : Cx) (e : Expr) (t : TE) : Prop :=
  ∀ (pins : List (Addr × Obj)) (s : Shared) (σ : St) (H : Hp) (Q : VK), Inv X pins σ H s → t σ H Q → wpAny (model X.prog X.w) X.A (eval e X.env) (EP X pins σ Q) X.xe s
noncomputable def PT (X : Cx) (e : Expr) (t : TT) : Prop :=
  ∀ (pins : List (Addr × Obj)) (s : Shared) (σ : St) (H : Hp) (Q : Bool → Hp → Prop), Inv X pins σ H s → t σ H Q → wpAny (model X.prog X.w) X.A (isTrue e X.env (eval e X.env)) (TP X pins σ Q) X.xe s
noncomputable def PW (X : Cx) (e : Expr) (t : TT) : Prop :=
  ∀ (whole : Sem Value) (pins : List (Addr × Obj)) (s : Shared) (σ : St) (H : Hp) (Q : Bool → Hp → Prop), Inv X pins σ H s → t σ H Q → wpAny (model X.prog X.w) X.A (isTrue e X.env whole) (TP X pins σ Q) X.xe s
theorem PW.pt {X : Cx} {e : Expr} {t : TT} (h : PW X e t) : PT X e t := h _
noncomputable def PA (X : Cx) (es : List Expr) (t : TA) : Prop :=
  ∀ (pos : Pos) (pins : List (Addr × Obj)) (s : Shared) (σ : St) (H : Hp) (Q : List V → Hp → Prop), Inv X pins σ H s → t σ H Q → wpAny (model X.prog X.w) X.A (spliced (backTo pos (starEach es X.env))) (AP X pins σ Q) X.xe s
noncomputable def PS (X : Cx) (st : Stmt) (t : TS) : Prop :=
  ∀ (pins : List (Addr × Obj)) (s : Shared) (σ : St) (H : Hp) (D : Ends), Inv X pins σ H s → t D σ H → wpAny (model X.prog X.w) X.A (exec st X.env) (SP X pins D) X.xe s
noncomputable def PSs (X : Cx) (st : List Stmt) (t : TS) : Prop :=
  ∀ (pins : List (Addr × Obj)) (s : Shared) (σ : St) (H : Hp) (D : Ends), Inv X pins σ H s → t D σ H → wpAny (model X.prog X.w) X.A (execs st X.env) (SP X pins D) X.xe s
theorem thn {α : Type} {t : Sem α} {Q Q' : α → Shared → Prop} {M : Model} {A : Around} {E : Value → Shared → Prop} {s : Shared} (h : wpAny M A t Q E s) (hQ : ∀ a s, Q a s → Q' a s) : wpAny M A t Q' E s := wpAny_mono h hQ fun _ _ x => x
end L2
namespace L2
open PySem PySem.Spec PyProof.Rows
section
variable {X : Cx}
noncomputable def tVar (i : Nat) : TE := fun σ H Q => ∃ v, σ[i]? = some (some v) ∧ Q v H
noncomputable def tC (v : V) : TE := fun _ H Q => Q v H
theorem pe_var {i : Nat} {x : Str} {pos : Pos} (hN : X.N[i]? = some x) (hv : Vis X.env.scope x) (hd : (x == ("__debug__" : Str)) = false := by decide) (hcd : (x == ("__classdict__" : Str)) = false := by decide) : PE X (.Name x pos) (tVar i) := by
  intro pins s σ H Q I h
  obtain ⟨v, e, h⟩ := h
  obtain ⟨m, hn, hl⟩ := I.loc
  obtain ⟨u, r, l⟩ := hl i x v hN e hv
  have fin : EP X pins σ Q u s := ⟨v, H, I, r, h⟩
  rcases l with ⟨hk, hm⟩ | ⟨hk, c, hc, hcell⟩
  · exact wpAny_Name (wpAny_loadName_local I.ok.kind hk hn hm fin) hd
  · rcases hk with hk | hk
    · exact wpAny_Name (wpAny_loadName_cell I.ok.kind hk hc hcell fin) hd
    · exact wpAny_Name (wpAny_loadName_free I.ok.kind hk hc hcell fin hcd) hd
theorem pe_int {i j pos} : PE X (.Constant (.int i) j pos) (tC (.int i)) := fun _ _ _ H _ I h => wpAny_Constant_int ⟨.int i, H, I.tok _, ⟨_, rfl⟩, h⟩
theorem pe_bl {b j pos} : PE X (.Constant (.bool b) j pos) (tC (.bl b)) := fun _ _ _ H _ I h => Constant_bool ⟨.bl b, H, I, rfl, h⟩
theorem pe_non {j pos} : PE X (.Constant .none j pos) (tC .non) := fun _ _ _ H _ I h => Constant_none ⟨.non, H, I, rfl, h⟩
theorem pe_str {x j pos} : PE X (.Constant (.str x) j pos) (tC (.str x)) := fun _ _ _ H _ I h => Calls.Constant_str ⟨.str x, H, I.tok _, ⟨_, rfl⟩, h⟩
noncomputable def Gl (X : Cx) (x : Str) : Prop := X.env.kindOf x = some .globalImplicit
theorem ld_glob {E : Value → Shared → Prop} {pins : List (Addr × Obj)} {s : Shared} {σ : St} {H : Hp} {x : Str} {u : Value} {pos : Pos} {Q : Value → Shared → Prop} (I : Inv X pins σ H s) (hg : Gl X x) (hm : X.mg x = some u) (h : Q u s)
    (hd : (x == ("__debug__" : Str)) = false := by decide) : wpAny (model X.prog X.w) X.A (eval (.Name x pos) X.env) Q E s :=
  Calls.Name_function_global I.ok.kind hg (Calls.loadGlobal_global (by rw [I.ok.glob]; exact I.mod.glob.keeps I.bk) hm h) hd
theorem ld_blt {E : Value → Shared → Prop} {pins : List (Addr × Obj)} {s : Shared} {σ : St} {H : Hp} {x : Str} {u : Value} {pos : Pos} {Q : Value → Shared → Prop} (I : Inv X pins σ H s) (hg : Gl X x) (hm : X.mg x = none) (hv : bootBuiltins x = some u) (h : Q u s)
    (hn : x ≠ "__name__" := by decide) (hd : (x == ("__debug__" : Str)) = false := by decide) : wpAny (model X.prog X.w) X.A (eval (.Name x pos) X.env) Q E s := by
  obtain ⟨mb, h1, h2⟩ := I.mod.blt
  exact Calls.Name_function_global I.ok.kind hg (Calls.loadGlobal_builtin (by rw [I.ok.glob]; exact I.mod.glob.keeps I.bk) hm (by rw [I.ok.blt]; exact h1.keeps I.bk) ((h2 x hn).trans hv) h) hd
theorem pe_glob {x : Str} {v : V} {u : Value} {pos : Pos} (hg : Gl X x) (hm : X.mg x = some u) (r : RelV v u) (hd : (x == ("__debug__" : Str)) = false := by decide) : PE X (.Name x pos) (tC v) :=
  fun _ _ _ H _ I h => ld_glob I hg hm ⟨v, H, I, r, h⟩ hd
variable {a b : Expr} {ta tb : TE} {pos : Pos}
noncomputable def PC (X : Cx) (op : CmpOp) (a b : Expr) (t : TE) : Prop :=
  ∀ (pins : List (Addr × Obj)) (s : Shared) (σ : St) (H : Hp) (Q : VK), Inv X pins σ H s → t σ H Q →
    wpAny (model X.prog X.w) X.A (eval a X.env) (fun v s₁ => wpAny (model X.prog X.w) X.A (eval b X.env) (fun u s₂ => wpAny (model X.prog X.w) X.A (compareOp op v u) (EP X pins σ Q) X.xe s₂) X.xe s₁) X.xe s
theorem nobehind (b : Expr) {op : CmpOp} (h : op ≠ .In) (h2 : op ≠ .NotIn) : behindInMarks op b = false := by
  have e1 : (op == CmpOp.In) = false := by cases op <;> first | rfl | exact absurd rfl h
  have e2 : (op == CmpOp.NotIn) = false := by cases op <;> first | rfl | exact absurd rfl h2
  cases b <;> simp [behindInMarks, e1, e2]
noncomputable def tNotN (ta : TE) : TE := fun σ H Q => ta σ H fun x H1 => Q (.bl (!decide (x = .non))) H1
theorem RelV.none_iff {x : V} {v : Value} (r : RelV x v) : (v == Value.none) = decide (x = .non) := by
  cases x with
  | non => cases r; rfl
  | bl _ => cases r; rfl
  | int _ => obtain ⟨t, rfl⟩ := r; rfl
  | str _ => obtain ⟨t, rfl⟩ := r; rfl
  | byt _ => obtain ⟨t, rfl⟩ := r; rfl
  | flt _ => obtain ⟨t, rfl⟩ := r; rfl
  | ref _ => cases r; rfl
  | ty _ => cases r; rfl
theorem pc_notN {j pos'} (ha : PE X a ta) : PC X .IsNot a (.Constant .none j pos') (tNotN ta) := by
  intro pins s σ H Q I h
  refine thn (ha pins s σ H _ I h) fun v s1 ⟨x, H1, I1, r1, q1⟩ => ?_
  exact Constant_none (isnot_none_gen ⟨.bl _, H1, I1, by rw [r1.none_iff]; rfl, q1⟩)
noncomputable def tB (t : TE) : TT := fun σ H Q => t σ H fun x H1 => ∃ c, x = .bl c ∧ Q c H1
theorem pt_cmp {op : CmpOp} {t : TE} (h : PC X op a b t) (h1 : behindInMarks op b = false := by first | exact nobehind _ (by decide) (by decide) | rfl) : PT X (.Compare a [op] [b] pos) (tB t) := by
  intro pins s σ H Q I hw
  refine wpAny_isTrue_Compare1 (thn (h pins s σ H _ I hw) fun v s1 h1 => thn h1 fun u s2 h2 => thn h2 fun c s3 ⟨x, H1, I1, r1, q1⟩ => ?_) h1
  obtain ⟨d, rfl, q⟩ := q1
  cases r1
  exact wpAny_truthy_bool ⟨H1, I1, q⟩
theorem pt_val {e : Expr} {t : TE} (h : PE X e t) (he : ∀ whole, isTrue e X.env whole = (do let v ← whole; standAt e.pos; holding [v] (truthy v)) := by intro _; rfl) : PT X e (tB t) := by
  intro pins s σ H Q I hw
  refine isTrue_plain (thn (h pins s σ H _ I hw) fun v s1 ⟨x, H1, I1, r1, q1⟩ => ?_) (he _)
  obtain ⟨d, rfl, q⟩ := q1
  cases r1
  exact wpAny_truthy_bool ⟨H1, I1, q⟩
variable {tA tB' : TT} {rest : List Expr}
noncomputable def tAnd (t u : TT) : TT := fun σ H Q => t σ H fun c H1 => if c = true then u σ H1 Q else Q false H1
noncomputable def tOr (t u : TT) : TT := fun σ H Q => t σ H fun c H1 => if c = true then Q true H1 else u σ H1 Q
noncomputable def tNot (t : TT) : TT := fun σ H Q => t σ H fun c H1 => Q (!c) H1
theorem pw_and1 (ha : PT X a tA) : PW X (.BoolOp .And [a] pos) tA := by
  intro wh pins s σ H Q I h
  refine isTrue_and (thn (ha pins s σ H Q I h) fun c s1 e => ?_)
  cases c with
  | true => exact isTrue_and_nil e
  | false => exact e
theorem pw_or1 (ha : PT X a tA) : PW X (.BoolOp .Or [a] pos) tA := by
  intro wh pins s σ H Q I h
  refine isTrue_or (thn (ha pins s σ H Q I h) fun c s1 e => ?_)
  cases c with
  | false => exact isTrue_or_nil e
  | true => exact e
theorem pw_and (ha : PT X a tA) (hb : PW X (.BoolOp .And (b :: rest) pos) tB') : PW X (.BoolOp .And (a :: b :: rest) pos) (tAnd tA tB') := by
  intro wh pins s σ H Q I h
  refine isTrue_and (thn (ha pins s σ H _ I h) fun c s1 ⟨H1, I1, q1⟩ => ?_)
  cases c with
  | true => exact hb wh pins s1 σ H1 Q I1 q1
  | false => exact ⟨H1, I1, q1⟩
theorem pw_or (ha : PT X a tA) (hb : PW X (.BoolOp .Or (b :: rest) pos) tB') : PW X (.BoolOp .Or (a :: b :: rest) pos) (tOr tA tB') := by
  intro wh pins s σ H Q I h
  refine isTrue_or (thn (ha pins s σ H _ I h) fun c s1 ⟨H1, I1, q1⟩ => ?_)
  cases c with
  | true => exact ⟨H1, I1, q1⟩
  | false => exact hb wh pins s1 σ H1 Q I1 q1
theorem pt_not (ha : PT X a tA) : PT X (.UnaryOp .Not a pos) (tNot tA) := by
  intro pins s σ H Q I h
  exact isTrue_not (ha pins s σ H (fun c H1 => Q (!c) H1) I h)
noncomputable def tAndV (ta tb : TE) : TE := fun σ H Q => ta σ H fun x H1 => ∃ c, x = .bl c ∧ if c = true then tb σ H1 Q else Q (.bl false) H1
theorem pe_one {op} {t : TE} (h : PE X a t) : PE X (.BoolOp op [a] pos) t := fun pins s σ H Q I hw => BoolOp_one (h pins s σ H Q I hw)
theorem pe_and (ha : PE X a ta) (hb : PE X (.BoolOp .And (b :: rest) pos) tb) : PE X (.BoolOp .And (a :: b :: rest) pos) (tAndV ta tb) := by
  intro pins s σ H Q I h
  refine BoolOp_and (thn (ha pins s σ H _ I h) fun v s1 ⟨x, H1, I1, r1, q1⟩ => ?_)
  obtain ⟨c, rfl, q1⟩ := q1
  cases r1
  refine wpAny_truthy_bool ?_
  cases c with
  | true => exact hb pins s1 σ H1 Q I1 q1
  | false => exact ⟨.bl false, H1, I1, rfl, q1⟩
noncomputable def tIf (t : TT) (ta tb : TE) : TE := fun σ H Q => t σ H fun c H1 => if c = true then ta σ H1 Q else tb σ H1 Q
theorem pe_ifExp {c : Expr} (hc : PT X c tA) (ha : PE X a ta) (hb : PE X b tb) : PE X (.IfExp c a b pos) (tIf tA ta tb) := by
  intro pins s σ H Q I h
  refine wpAny_IfExp (thn (hc pins s σ H _ I h) fun d s1 ⟨H1, I1, q1⟩ => ?_)
  cases d with
  | true => exact ha pins s1 σ H1 Q I1 q1
  | false => exact hb pins s1 σ H1 Q I1 q1
end
end L2
namespace L2
open PySem PySem.Spec PyProof.Rows
noncomputable def SqL (K : PySem.W.Frag) (H : Hp) (a : Addr) (xs : List V) : Prop :=
  Rd H a (.lst xs) ∨
    ∃ (o : Obj) (its : Array Value) (n : Nat), K.lookup a = some o ∧ o.cls = .type "list" ∧ o.dict = none ∧ o.data = .seq its n ∧ its.size ≤ sizeLine ∧ Vals xs its.toList
noncomputable def SqT (K : PySem.W.Frag) (H : Hp) (a : Addr) (xs : List V) : Prop :=
  Rd H a (.tup xs) ∨
    ∃ (o : Obj) (its : Array Value) (n : Nat), K.lookup a = some o ∧ o.cls = .type "tuple" ∧ o.data = .seq its n ∧ its.size ≤ sizeLine ∧ Vals xs its.toList
noncomputable def absV : Value → Option V
  | .none => some .non
  | .bool b => some (.bl b)
  | .int i _ => some (.int i)
  | .str x _ => some (.str x)
  | .bytes b _ => some (.byt b)
  | .float b _ => some (.flt b)
  | .ref a => some (.ref a)
  | .type n => some (.ty n)
  | _ => none
theorem RelV.abs {x : V} {u : Value} (r : RelV x u) : absV u = some x := by
  cases x with
  | non => cases r; rfl
  | bl _ => cases r; rfl
  | int _ => obtain ⟨t, rfl⟩ := r; rfl
  | str _ => obtain ⟨t, rfl⟩ := r; rfl
  | byt _ => obtain ⟨t, rfl⟩ := r; rfl
  | flt _ => obtain ⟨t, rfl⟩ := r; rfl
  | ref _ => cases r; rfl
  | ty _ => cases r; rfl
theorem RelV.inj {x y : V} {u : Value} (r : RelV x u) (q : RelV y u) : x = y := Option.some.inj (r.abs.symm.trans q.abs)
theorem Vals.inj : ∀ {xs ys : List V} {us : List Value}, Vals xs us → Vals ys us → xs = ys
  | _, _, _, .nil, .nil => rfl
  | _, _, _, .cons r t, .cons r' t' => by rw [r.inj r', Vals.inj t t']
section
variable {X : Cx} {pins : List (Addr × Obj)} {σ : St} {H : Hp} {s : Shared} {a : Addr} {xs ys : List V}
theorem SqL.of {K : PySem.W.Frag} (h : H a = some (.lst xs)) : SqL K H a xs := .inl (.inl h)
theorem SqT.of {K : PySem.W.Frag} (h : H a = some (.tup xs)) : SqT K H a xs := .inl (.inl h)
theorem Inv.list (I : Inv X pins σ H s) (h : SqL X.K H a xs) : ∃ its : List Value, Vals xs its ∧ PlainL s.heap a its.toArray ∧ xs.length ≤ sizeLine := by
  rcases h with h | ⟨o, its, n, hk, hc, hd, hs, hz, r⟩
  · obtain ⟨z, its, n, r, e⟩ := h.ok I.hok
    exact ⟨its, r, ⟨_, n, e, rfl, rfl, rfl⟩, z⟩
  · refine ⟨its.toList, r, ⟨o, n, I.kIn a o hk, hc, hd, by simpa using hs⟩, ?_⟩
    have e := r.length
    simp only [Array.length_toList] at e
    omega
theorem Inv.tuple (I : Inv X pins σ H s) (h : SqT X.K H a xs) : ∃ its : List Value, Vals xs its ∧ IsTup s.heap a its.toArray ∧ xs.length ≤ sizeLine := by
  rcases h with h | ⟨o, its, n, hk, hc, hs, hz, r⟩
  · obtain ⟨z, its, r, p⟩ := h.ok I.hok
    exact ⟨its, r, p, z⟩
  · refine ⟨its.toList, r, ⟨o, I.kIn a o hk, hc, n, by simpa using hs⟩, ?_⟩
    have e := r.length
    simp only [Array.length_toList] at e
    omega
theorem Inv.list_inj (I : Inv X pins σ H s) (h : SqL X.K H a xs) (h' : SqL X.K H a ys) : xs = ys := by
  obtain ⟨its, r, ⟨o, n, e, _, _, d⟩, _⟩ := I.list h
  obtain ⟨its', r', ⟨o', n', e', _, _, d'⟩, _⟩ := I.list h'
  rw [e] at e'; cases e'
  rw [d] at d'
  injection d' with d1 _
  have : its = its' := by simpa using congrArg Array.toList d1
  subst this
  exact r.inj r'
theorem Inv.tuple_inj (I : Inv X pins σ H s) (h : SqT X.K H a xs) (h' : SqT X.K H a ys) : xs = ys := by
  obtain ⟨its, r, ⟨o, e, _, n, d⟩, _⟩ := I.tuple h
  obtain ⟨its', r', ⟨o', e', _, n', d'⟩, _⟩ := I.tuple h'
  rw [e] at e'; cases e'
  rw [d] at d'
  injection d' with d1 _
  have : its = its' := by simpa using congrArg Array.toList d1
  subst this
  exact r.inj r'
end
noncomputable abbrev Cx.wish (X : Cx) (E : Value → Shared → Prop) : Cx := { X with xe := E }
noncomputable abbrev Cx.nox (X : Cx) : Cx := X.wish fun _ _ => False
theorem Cx.Ok.wish {X : Cx} (ok : X.Ok) (E : Value → Shared → Prop) : (X.wish E).Ok :=
  ⟨ok.mod, ok.kind, ok.glob, ok.blt, ok.above, ok.inj, ok.has, ok.cab, ok.hd, ok.frames, ok.stk, ok.exf, ok.bs, ok.bsz, ok.noex, ok.exfs, ok.funs, ok.frf⟩
theorem Cx.Ok.unwish {X : Cx} {E : Value → Shared → Prop} (ok : (X.wish E).Ok) : X.Ok :=
  ⟨ok.mod, ok.kind, ok.glob, ok.blt, ok.above, ok.inj, ok.has, ok.cab, ok.hd, ok.frames, ok.stk, ok.exf, ok.bs, ok.bsz, ok.noex, ok.exfs, ok.funs, ok.frf⟩
section
variable {X : Cx} {pins : List (Addr × Obj)} {σ : St} {H : Hp} {s : Shared} {E : Value → Shared → Prop}
theorem Inv.wish (I : Inv X pins σ H s) (E : Value → Shared → Prop) : Inv (X.wish E) pins σ H s := ⟨I.ok.wish E, I.os, I.bare, I.base, I.loc, I.cell, I.free, I.freeC, I.pin, I.hok, I.len⟩
theorem Inv.unwish (I : Inv (X.wish E) pins σ H s) : Inv X pins σ H s := ⟨I.ok.unwish, I.os, I.bare, I.base, I.loc, I.cell, I.free, I.freeC, I.pin, I.hok, I.len⟩
theorem SP.unwish {D : Ends} {f : Flow} {s' : Shared} (h : SP (X.wish E) pins D f s') : SP X pins D f s' := by
  cases f with
  | next => obtain ⟨σ', H', I, q⟩ := h; exact ⟨σ', H', I.unwish, q⟩
  | brk => obtain ⟨σ', H', I, q⟩ := h; exact ⟨σ', H', I.unwish, q⟩
  | cont => obtain ⟨σ', H', I, q⟩ := h; exact ⟨σ', H', I.unwish, q⟩
  | ret u => obtain ⟨v, σ', H', I, r, q⟩ := h; exact ⟨v, σ', H', I.unwish, r, q⟩
theorem PSs.nox {st : List Stmt} {t : TS} (h : PSs X.nox st t) : PSs X st t := fun pins s σ H D I hw =>
  wpAny_mono (h pins s σ H D (I.wish _) hw) (fun _ _ q => q.unwish) fun _ _ z => False.elim z
end
section
variable {X : Cx} {st : Stmt} {rest : List Stmt} {t u : TS} {e : Expr} {te : TE} {pos : Pos}
noncomputable def tNext : TS := fun D σ H => D.nx σ H
noncomputable def tSeq (t u : TS) : TS := fun D σ H => t { D with nx := u D } σ H
theorem pss_nil : PSs X [] tNext := fun _ _ σ H _ I h => wpAny_execs_nil ⟨σ, H, I, h⟩
theorem pss_cons (h1 : PS X st t) (h2 : PSs X rest u) : PSs X (st :: rest) (tSeq t u) := by
  intro pins s σ H D I h
  refine wpAny_execs_cons (thn (h1 pins s σ H { D with nx := u D } I h) fun f s1 q => ?_)
  cases f with
  | next =>
    obtain ⟨σ', H', I', q⟩ := q
    exact h2 pins s1 σ' H' D I' q
  | ret v => exact q
  | brk => exact q
  | cont => exact q
theorem pss_one (h1 : PS X st t) : PSs X [st] t := by
  intro pins s σ H D I h
  refine wpAny_execs_cons (thn (h1 pins s σ H D I h) fun f s1 q => ?_)
  cases f with
  | next => exact wpAny_execs_nil q
  | ret v => exact q
  | brk => exact q
  | cont => exact q
theorem Inv.quiet {pins : List (Addr × Obj)} {σ : St} {H : Hp} {s : Shared} (I : Inv X pins σ H s) : interactive X.env = false := by simp [interactive, I.ok.kind]
noncomputable def tDrop (te : TE) : TS := fun D σ H => te σ H fun _ H1 => D.nx σ H1
theorem ps_expr (he : PE X e te) (hs : swapsWith e none pos.line X.env = pure false := by rfl) : PS X (.Expr e pos) (tDrop te) := by
  intro pins s σ H D I h
  exact wpAny_Expr_any (thn (he pins s σ H _ I h) fun v s1 ⟨x, H1, I1, r1, q1⟩ => ⟨σ, H1, I1, q1⟩) I.quiet hs
noncomputable def tRet (te : TE) : TS := fun D σ H => te σ H D.rt
theorem ps_ret (he : PE X e te) : PS X (.Return (some e) pos) (tRet te) := by
  intro pins s σ H D I h
  exact wpAny_Return_some (thn (he pins s σ H _ I h) fun v s1 ⟨x, H1, I1, r1, q1⟩ => ⟨x, σ, H1, I1, r1, q1⟩)
noncomputable def tIfS (c : TT) (t u : TS) : TS := fun D σ H => c σ H fun b H1 => if b = true then t D σ H1 else u D σ H1
theorem ps_if {c : Expr} {a b : List Stmt} {tc : TT} (hc : PT X c tc) (ha : PSs X a t) (hb : PSs X b u) : PS X (.If c a b pos) (tIfS tc t u) := by
  intro pins s σ H D I h
  refine wpAny_If (thn (hc pins s σ H _ I h) fun d s1 ⟨H1, I1, q1⟩ => ?_)
  cases d with
  | true => exact ha pins s1 σ H1 D I1 q1
  | false => exact hb pins s1 σ H1 D I1 q1
noncomputable def tNever : TS := fun _ _ _ => False
theorem ps_never : PS X st tNever := fun _ _ _ _ _ _ h => h.elim
end
noncomputable abbrev TG := V → St → Hp → (St → Hp → Prop) → Prop
noncomputable abbrev TGs := List V → St → Hp → (St → Hp → Prop) → Prop
noncomputable def PG (X : Cx) (target : Expr) (t : TG) : Prop :=
  ∀ (pins : List (Addr × Obj)) (s : Shared) (σ : St) (H : Hp) (v : V) (u : Value) (Q : St → Hp → Prop), Inv X pins σ H s → RelV v u → t v σ H Q →
    wpAny (model X.prog X.w) X.A (assign target X.env u) (fun _ s' => ∃ σ' H', Inv X pins σ' H' s' ∧ Q σ' H') X.xe s
noncomputable def PGs (X : Cx) (ts : List Expr) (t : TGs) : Prop :=
  ∀ (pins : List (Addr × Obj)) (s : Shared) (σ : St) (H : Hp) (vs : List V) (us : List Value) (Q : St → Hp → Prop), Inv X pins σ H s → Vals vs us → t vs σ H Q →
    wpAny (model X.prog X.w) X.A (assignInOrder ((assignEach ts X.env).map (·.2)) us) (fun _ s' => ∃ σ' H', Inv X pins σ' H' s' ∧ Q σ' H') X.xe s
noncomputable abbrev TSet := V → V → V → Hp → (Hp → Prop) → Prop
noncomputable abbrev TIp := V → V → Hp → VK → Prop
noncomputable def PIp (X : Cx) (op : Operator) (t : TIp) : Prop :=
  ∀ (pins : List (Addr × Obj)) (s : Shared) (σ : St) (H : Hp) (x y : V) (v u : Value) (Q : VK), Inv X pins σ H s → RelV x v → RelV y u → t x y H Q →
    wpAny (model X.prog X.w) X.A (inplaceOp op v u) (EP X pins σ Q) X.xe s
section
variable {X : Cx} {pos : Pos}
noncomputable def gName (i : Nat) : TG := fun v σ H Q => Q (σ.set i (some v)) H
theorem pg_name {i : Nat} {x : Str} (hN : X.N.Nodup) (hi : X.N[i]? = some x) (hx : Loc X.env.scope x) (hf : X.fn x = true ∨ X.env.scope.names.lookup x = some .local := by first | exact .inl rfl | exact .inr rfl | assumption) : PG X (.Name x pos) (gName i) := by
  intro pins s σ H v u Q I r h
  exact wpAny_assign_Name (store_ok I hN hi hx r (fun s' I' => ⟨_, H, I', h⟩) hf)
noncomputable def gNil : TGs := fun vs σ H Q => vs = [] ∧ Q σ H
noncomputable def gCons (t : TG) (u : TGs) : TGs := fun vs σ H Q => ∃ v r, vs = v :: r ∧ t v σ H fun σ' H' => u r σ' H' Q
theorem pgs_nil : PGs X [] gNil := by
  intro pins s σ H vs us Q I r h
  obtain ⟨e, h⟩ := h
  subst e
  cases r
  exact assignInOrder_nil ⟨σ, H, I, h⟩
theorem pgs_cons {e : Expr} {es : List Expr} {t : TG} {u : TGs} (h1 : PG X e t) (h2 : PGs X es u)
    (hs : (assignEach (e :: es) X.env).map (·.2) = assign e X.env :: (assignEach es X.env).map (·.2) := by rfl) : PGs X (e :: es) (gCons t u) := by
  intro pins s σ H vs us Q I r h
  obtain ⟨v, vr, e1, h⟩ := h
  subst e1
  cases r with
  | cons r rr =>
    rw [hs]
    refine assignInOrder_cons (thn (h1 pins s σ H _ _ _ I r h) fun _ s1 ⟨σ1, H1, I1, q1⟩ => ?_)
    exact h2 pins s1 σ1 H1 _ _ Q I1 rr q1
noncomputable def gTup (K : PySem.W.Frag) (n : Nat) (t : TGs) : TG := fun v σ H Q => ∃ a xs, v = .ref a ∧ SqT K H a xs ∧ xs.length = n ∧ t xs σ H Q
theorem pg_tup {es : List Expr} {k : Nat} {t : TGs} {n : Nat} (hc : X.calm = true) (h : PGs X es t)
    (hn : (assignEach es X.env).length = n := by rfl) (hst : (assignEach es X.env).findIdx? (·.1) = none := by rfl) : PG X (.Tuple es k pos) (gTup X.K n t) := by
  intro pins s σ H v u Q I r hw
  obtain ⟨a, xs, e1, hq, hl, hw⟩ := hw
  subst e1
  cases r
  obtain ⟨its, rv, ht, hz⟩ := I.tuple hq
  refine assign_Tuple_tuple (I.ok.hd hc) ht (by simp [hn, ← hl, rv.length]) hst fun h' hx => ?_
  have I1 : Inv X pins σ H { s with heap := h' } := I.kept (t' := s.toks) fun b o e => hx b o (Nat.ne_of_lt (Heap.lt_size e)) e
  exact h pins _ σ H xs _ Q I1 (by simpa using rv) hw
noncomputable def tAsg (te : TE) (g : TG) : TS := fun D σ H => te σ H fun x H1 => g x σ H1 D.nx
theorem ps_set {i : Nat} {x : Str} {e : Expr} {te : TE} {pos' : Pos} (hN : X.N.Nodup) (hi : X.N[i]? = some x) (hx : Loc X.env.scope x) (he : PE X e te) (hs : swapsWith e (some (.Name x pos')) pos.line X.env = pure false := by rfl) (hf : X.fn x = true ∨ X.env.scope.names.lookup x = some .local := by first | exact .inl rfl | exact .inr rfl | assumption) :
    PS X (.Assign [.Name x pos'] e pos) (tAsg te (gName i)) := by
  intro pins s σ H D I h
  refine wpAny_Assign_Name (thn (he pins s σ H _ I h) fun v s1 ⟨y, H1, I1, r1, q1⟩ => ?_) hs
  exact store_ok I1 hN hi hx r1 (fun s2 I2 => ⟨_, H1, I2, q1⟩) hf
noncomputable def tAug (i : Nat) (te : TE) (ti : TIp) : TS := fun D σ H => ∃ x, σ[i]? = some (some x) ∧ te σ H fun y H1 => ti x y H1 fun z H2 => D.nx (σ.set i (some z)) H2
theorem ps_aug {i : Nat} {x : Str} {e : Expr} {te : TE} {op : Operator} {ti : TIp} {pos' : Pos} (hN : X.N.Nodup) (hi : X.N[i]? = some x) (hx : Loc X.env.scope x) (he : PE X e te) (ho : PIp X op ti) (hf : X.fn x = true ∨ X.env.scope.names.lookup x = some .local := by first | exact .inl rfl | exact .inr rfl | assumption) :
    PS X (.AugAssign (.Name x pos') op e pos) (tAug i te ti) := by
  intro pins s σ H D I h
  obtain ⟨v, e1, h⟩ := h
  obtain ⟨m, hn, hl⟩ := I.loc
  have vis : Vis X.env.scope x := by rcases hx with k | k; exact .inl k; exact .inr (.inl k)
  obtain ⟨u, r, l⟩ := hl i x v hi e1 vis
  refine wpAny_AugAssign_Name ?_
  have go : wpAny (model X.prog X.w) X.A (eval e X.env) (fun w s₂ => wpAny (model X.prog X.w) X.A (inplaceOp op u w) (fun r s₃ => wpAny (model X.prog X.w) X.A (storeName X.env x r) (fun _ => SP X pins D .next) X.xe s₃) X.xe s₂) X.xe s := by
    refine thn (he pins s σ H _ I h) fun w s1 ⟨y, H1, I1, r1, q1⟩ => ?_
    refine thn (ho pins s1 σ H1 v y u w _ I1 r r1 q1) fun z s2 ⟨zv, H2, I2, r2, q2⟩ => ?_
    exact store_ok I2 hN hi hx r2 (fun s3 I3 => ⟨_, H2, I3, q2⟩) hf
  rcases l with ⟨hk, hm⟩ | ⟨hk, c, hc, hcell⟩
  · exact wpAny_loadName_local I.ok.kind hk hn hm go
  · rcases hk with hk | hk
    · exact wpAny_loadName_cell I.ok.kind hk hc hcell go
    · rcases hx with k | k
      · have : X.env.scope.names.lookup x = some .free := hk
        rw [k] at this; cases this
      · have : X.env.scope.names.lookup x = some .free := hk
        rw [k] at this; cases this
noncomputable def ipI (f : Int → Int → Int) : TIp := fun x y H Q => ∃ i j, x = .int i ∧ y = .int j ∧ Q (.int (f i j)) H
theorem ip_add : PIp X .Add (ipI fun i j => i + j) := by
  intro pins s σ H x y v u Q I r1 r2 h
  obtain ⟨i, j, e1, e2, q⟩ := h
  subst e1; subst e2
  obtain ⟨t, rfl⟩ := r1
  obtain ⟨t', rfl⟩ := r2
  exact iadd_int ⟨.int _, H, I.tok _, ⟨_, rfl⟩, q⟩
theorem ip_sub : PIp X .Sub (ipI fun i j => i - j) := by
  intro pins s σ H x y v u Q I r1 r2 h
  obtain ⟨i, j, e1, e2, q⟩ := h
  subst e1; subst e2
  obtain ⟨t, rfl⟩ := r1
  obtain ⟨t', rfl⟩ := r2
  exact isub_int ⟨.int _, H, I.tok _, ⟨_, rfl⟩, q⟩
end
section
variable {X : Cx} {pos : Pos}
noncomputable def tWhile (c : TT) (tb : TS) : TS := fun D σ H => ∃ W : Nat → St → Hp → Prop, (∃ m, W m σ H) ∧ ∀ m σ H, W m σ H →
  c σ H fun b H1 => if b = true then ∃ N : St → Hp → Prop, (∀ σ' H', N σ' H' → ∃ m', m' < m ∧ W m' σ' H') ∧ tb { D with nx := N, ct := N, bk := D.nx } σ H1 else D.nx σ H1
theorem ps_while {c : Expr} {body : List Stmt} {tc : TT} {tb : TS} (hp : PassesOwn (model X.prog X.w) X.A X.env X.xe) (hc : PT X c tc) (hb : PSs X body tb) : PS X (.While c body [] pos) (tWhile tc tb) := by
  intro pins s σ H D I h
  obtain ⟨W, ⟨m0, w0⟩, turn⟩ := h
  refine wpAny_While (codeAny_whileLoop (fun n s' => ∃ σ' H', Inv X pins σ' H' s' ∧ W n σ' H') ?_ m0 ⟨σ, H, I, w0⟩)
  rintro n s1 ⟨σ1, H1, I1, w1⟩
  refine wpAny_passesOwn hp (thn (hc pins s1 σ1 H1 _ I1 (turn n σ1 H1 w1)) fun b s2 ⟨H2, I2, q2⟩ => ?_)
  cases b with
  | true =>
    obtain ⟨N, hN, q2⟩ := q2
    rw [if_pos rfl]
    refine wpAny_passesOwn hp (thn (hb pins s2 σ1 H2 _ I2 q2) fun f s3 q3 => ?_)
    cases f with
    | next =>
      obtain ⟨σ3, H3, I3, n3⟩ := q3
      obtain ⟨m', hm, w3⟩ := hN σ3 H3 n3
      exact ⟨m', hm, σ3, H3, I3, w3⟩
    | cont =>
      obtain ⟨σ3, H3, I3, n3⟩ := q3
      obtain ⟨m', hm, w3⟩ := hN σ3 H3 n3
      exact ⟨m', hm, σ3, H3, I3, w3⟩
    | brk => exact q3
    | ret v => exact q3
  | false =>
    rw [if_neg Bool.false_ne_true]
    exact wpAny_execs_nil ⟨σ1, H2, I2, q2⟩
end
structure It where
  go : Nat → Hp → Prop
  yld : Nat → Hp → V → Hp → Prop
  stop : Nat → Hp → Prop
noncomputable def FpOk (X : Cx) (pins : List (Addr × Obj)) (H : Hp) (b : Addr) : Prop :=
  H b = none ∧ b ≠ X.env.locals ∧ b ∉ X.fs ∧ (b ∈ X.ex ∨ X.s₀.heap.objs.size ≤ b) ∧ (∀ x c, X.env.cells.lookup x = some c → c ≠ b) ∧ ∀ p ∈ X.pn ++ pins, p.1 ≠ b
theorem Inv.fpOk {X : Cx} {pins : List (Addr × Obj)} {σ : St} {H H' : Hp} {s : Shared} {b : Addr} (I : Inv X pins σ H s) (hb : s.heap.objs.size ≤ b) (hn : H' b = none) : FpOk X pins H' b := by
  refine ⟨hn, Nat.ne_of_gt (Nat.lt_of_lt_of_le I.lt hb), I.nofs hb, .inr (Nat.le_trans I.sz hb), fun x c e z => ?_, fun p hp z => ?_⟩
  · obtain ⟨v, q⟩ := I.cell x c e
    exact absurd (Nat.lt_of_lt_of_le q.lt (by rw [z]; exact hb)) (Nat.lt_irrefl _)
  · exact absurd (Nat.lt_of_lt_of_le (Heap.lt_size (I.pin p hp).1) (by rw [z]; exact hb)) (Nat.lt_irrefl _)
structure Turn (P : Program) (w : World) (K : PySem.W.Frag) (tg : Expr) (J : It) (fp : List Addr) (it : Addr) (tn : Nat → Heap → Prop) : Prop where
  mem : it ∈ fp
  obj : ∀ i h, tn i h → ∀ b ∈ fp, ∃ o, h.get? b = some o ∧ ∀ v, o.data ≠ .cell v
  keep : ∀ i h h', tn i h → (∀ b ∈ fp, ∀ o, h.get? b = some o → h'.get? b = some o) → tn i h'
  item : ∀ (X : Cx), X.prog = P → X.w = w → X.K = K → X.calm = true → ∀ (i : Nat) (pins : List (Addr × Obj)) (s : Shared) (σ : St) (H : Hp) (E : Value → Shared → Prop), Inv X pins σ H s → (∀ b ∈ fp, FpOk X pins H b) → tn i s.heap → J.go i H →
    wpAny (model P w) X.A (pyNext (.ref it)) (fun r s1 => ∃ u, r = some u ∧
      wpAny (model P w) X.A (letOwnedTupleGo tg (.ref it) u) (fun _ s2 => ∃ x H', Inv X pins σ H' s2 ∧ RelV x u ∧ J.yld i H x H' ∧ tn (i + 1) s2.heap ∧ ∀ b ∈ fp, H' b = none) E s1) E s
  done : ∀ (X : Cx), X.prog = P → X.w = w → X.K = K → X.calm = true → ∀ (i : Nat) (pins : List (Addr × Obj)) (s : Shared) (σ : St) (H : Hp) (E : Value → Shared → Prop), Inv X pins σ H s → (∀ b ∈ fp, FpOk X pins H b) → tn i s.heap → J.stop i H →
    wpAny (model P w) X.A (pyNext (.ref it)) (fun r s1 => r = none ∧ Inv X pins σ H s1) E s
  self : ∀ (A : Around) (i : Nat) (s : Shared) (Q : Value → Shared → Prop) (E : Value → Shared → Prop), tn i s.heap → Q (.ref it) s → wpAny (model P w) A (pyIter (.ref it)) Q E s
noncomputable abbrev TI := St → Hp → (It → Hp → Prop) → Prop
noncomputable def PIE (X : Cx) (pins : List (Addr × Obj)) (σ : St) (tg : Expr) (R : It → Hp → Prop) (itv : Value) (s2 : Shared) : Prop :=
  ∃ (it : Addr) (fp : List Addr) (tn : Nat → Heap → Prop) (J : It) (H' : Hp), itv = .ref it ∧ Inv X pins σ H' s2 ∧ Turn X.prog X.w X.K tg J fp it tn ∧ tn 0 s2.heap ∧ (∀ b ∈ fp, FpOk X pins H' b) ∧ R J H'
noncomputable def PI (X : Cx) (tg iter : Expr) (wi : TI) : Prop :=
  ∀ (pins : List (Addr × Obj)) (s : Shared) (σ : St) (H : Hp) (R : It → Hp → Prop), Inv X pins σ H s → wi σ H R →
    wpAny (model X.prog X.w) X.A (eval iter X.env) (fun v s1 => wpAny (model X.prog X.w) X.A (pyIter v) (PIE X pins σ tg R) X.xe s1) X.xe s
theorem go_of {M : Model} {A : Around} {E : Value → Shared → Prop} {s : Shared} {tg : Expr} {it : Addr} {u : Value} {o : Obj} {n : String} {vs : Array Value} {Q : Unit → Shared → Prop} (ho : s.heap.get? it = some o) (hc : o.cls = .type n) (hd : o.data = .fields vs)
    (hn : ["enumerate", "zip", "dict_itemiterator", "dict_reverseitemiterator", "odict_iterator", "itertools.zip_longest", "itertools.pairwise"].contains n = false) (hQ : Q () s) : wpAny M A (letOwnedTupleGo tg (.ref it) u) Q E s := by
  unfold letOwnedTupleGo
  cases tg <;> first
    | exact wpAny_pure hQ
    | (cases u <;> first
        | exact wpAny_pure hQ
        | (refine wpAny_bind (wpAny_load ho ?_)
           rw [hc, hd]
           show wpAny M A (if (["enumerate", "zip", "dict_itemiterator", "dict_reverseitemiterator", "odict_iterator", "itertools.zip_longest", "itertools.pairwise"].contains n && vs[0]? == some (rawInt _)) = true then _ else _) Q E s
           rw [if_neg (by intro h; rw [hn, Bool.false_and] at h; cases h)]
           exact wpAny_pure hQ))
noncomputable def Itl (K : PySem.W.Frag) (a : Addr) : It :=
  ⟨fun i H => ∃ xs x, SqL K H a xs ∧ xs[i]? = some x, fun i H x H' => H' = H ∧ ∀ xs, SqL K H a xs → xs[i]? = some x, fun i H => ∃ xs, SqL K H a xs ∧ xs.length ≤ i⟩
noncomputable def Itt (K : PySem.W.Frag) (a : Addr) : It :=
  ⟨fun i H => ∃ xs x, SqT K H a xs ∧ xs[i]? = some x, fun i H x H' => H' = H ∧ ∀ xs, SqT K H a xs → xs[i]? = some x, fun i H => ∃ xs, SqT K H a xs ∧ xs.length ≤ i⟩
noncomputable def Itr (lo : Int) (n : Nat) : It := ⟨fun i _ => i < n, fun i H x H' => H' = H ∧ x = .int (lo + i), fun i _ => n ≤ i⟩
theorem turn_list {P : Program} {w : World} {K : PySem.W.Frag} {tg : Expr} (a it : Addr) : Turn P w K tg (Itl K a) [it] it (fun i h => h.IsListIter it a i) where
  mem := by simp
  obj := fun i h st b hb => by
    have e : b = it := by simpa using hb
    subst e
    obtain ⟨o, e, c, d⟩ := st
    exact ⟨o, e, fun v z => by rw [d] at z; cases z⟩
  keep := fun i h h' st k => st.at fun o e => k it (by simp) o e
  item := by
    intro X hP hw hK hc i pins s σ H E I hf st hg
    subst hP hw hK
    obtain ⟨xs, x, hq, hx⟩ := hg
    obtain ⟨its, rv, p, hz⟩ := I.list hq
    obtain ⟨u, hu, ru⟩ := rv.get hx
    obtain ⟨f0, f1, f2, f3, f4, f5⟩ := hf it (by simp)
    refine wpAny_pyNext_list_item st p.isList (x := u) (by simpa using hu) fun h' st' sb => ?_
    have I1 : Inv X pins σ H { s with heap := h' } := I.turned (t' := s.toks) (fun b o hb e => (sb.2 b hb).trans e) f0 f1 f3 f4 f5
    obtain ⟨o, e, c, d⟩ := id st'
    exact ⟨u, rfl, go_of (s := { s with heap := h' }) e c d (by decide) ⟨x, H, I1, ru, ⟨rfl, fun ys hy => by rw [I.list_inj hy hq]; exact hx⟩, st', fun b hb => (hf b hb).1⟩⟩
  done := by
    intro X hP hw hK hc i pins s σ H E I hf st hg
    subst hP hw hK
    obtain ⟨xs, hq, hx⟩ := hg
    obtain ⟨its, rv, p, hz⟩ := I.list hq
    obtain ⟨f0, f1, f2, f3, f4, f5⟩ := hf it (by simp)
    have hl := rv.length
    exact wpAny_pyNext_list_end (I.ok.hd hc) st p.isList (by simp; omega) fun h' eb => ⟨rfl, I.turned (t' := s.toks) (fun b o hb e => eb b o hb e) f0 f1 f3 f4 f5⟩
  self := fun _ _ _ _ _ st h => wpAny_pyIter_listiter st h
theorem turn_tuple {P : Program} {w : World} {K : PySem.W.Frag} {tg : Expr} (a it : Addr) : Turn P w K tg (Itt K a) [it] it (fun i h => h.IsTupleIter it a i) where
  mem := by simp
  obj := fun i h st b hb => by
    have e : b = it := by simpa using hb
    subst e
    obtain ⟨o, e, c, d⟩ := st
    exact ⟨o, e, fun v z => by rw [d] at z; cases z⟩
  keep := fun i h h' st k => st.at fun o e => k it (by simp) o e
  item := by
    intro X hP hw hK hc i pins s σ H E I hf st hg
    subst hP hw hK
    obtain ⟨xs, x, hq, hx⟩ := hg
    obtain ⟨its, rv, p, hz⟩ := I.tuple hq
    obtain ⟨u, hu, ru⟩ := rv.get hx
    obtain ⟨f0, f1, f2, f3, f4, f5⟩ := hf it (by simp)
    refine wpAny_pyNext_tuple_item st (show s.heap.IsTuple a its.toArray from p) (x := u) (by simpa using hu) fun h' st' sb => ?_
    have I1 : Inv X pins σ H { s with heap := h' } := I.turned (t' := s.toks) (fun b o hb e => (sb.2 b hb).trans e) f0 f1 f3 f4 f5
    obtain ⟨o, e, c, d⟩ := id st'
    exact ⟨u, rfl, go_of (s := { s with heap := h' }) e c d (by decide) ⟨x, H, I1, ru, ⟨rfl, fun ys hy => by rw [I.tuple_inj hy hq]; exact hx⟩, st', fun b hb => (hf b hb).1⟩⟩
  done := by
    intro X hP hw hK hc i pins s σ H E I hf st hg
    subst hP hw hK
    obtain ⟨xs, hq, hx⟩ := hg
    obtain ⟨its, rv, p, hz⟩ := I.tuple hq
    obtain ⟨f0, f1, f2, f3, f4, f5⟩ := hf it (by simp)
    have hl := rv.length
    exact wpAny_pyNext_tuple_end (I.ok.hd hc) st (show s.heap.IsTuple a its.toArray from p) (by simp; omega) fun h' eb => ⟨rfl, I.turned (t' := s.toks) (fun b o hb e => eb b o hb e) f0 f1 f3 f4 f5⟩
  self := fun _ _ _ _ _ st h => wpAny_pyIter_tupleiter st h
theorem turn_range {P : Program} {w : World} {K : PySem.W.Frag} {tg : Expr} (it : Addr) (lo : Int) (n : Nat) : Turn P w K tg (Itr lo n) [it] it (fun i h => IsRangeIter h it (lo + (i : Nat) * 1) ((n : Int) - (i : Nat)) 1) where
  mem := by simp
  obj := fun i h st b hb => by
    have e : b = it := by simpa using hb
    subst e
    exact ⟨_, st, fun v z => by
      have z' : Data.fields _ = Data.cell v := z
      cases z'⟩
  keep := fun i h h' st k => k it (by simp) _ st
  item := by
    intro X hP hw hK hc i pins s σ H E I hf st hg
    subst hP hw hK
    obtain ⟨f0, f1, f2, f3, f4, f5⟩ := hf it (by simp)
    have W := Walks.range (prog := X.prog) (w := X.w) (I.ok.hd hc) it lo 1 n
    refine W.item i s _ _ hg st fun v h' tk hv st' kk => ?_
    obtain ⟨t, rfl⟩ := hv
    have I1 : Inv X pins σ H { s with heap := h', toks := tk } := I.turned (fun b o hb e => kk b o (by simpa using hb) e) f0 f1 f3 f4 f5
    refine ⟨_, rfl, go_of (s := { s with heap := h', toks := tk }) (n := "range_iterator") st' rfl rfl (by decide) ⟨.int (lo + i), H, I1, ⟨t, ?_⟩, ⟨rfl, rfl⟩, st', fun b hb => (hf b hb).1⟩⟩
    rw [Int.mul_one]
  done := by
    intro X hP hw hK hc i pins s σ H E I hf st hg
    subst hP hw hK
    obtain ⟨f0, f1, f2, f3, f4, f5⟩ := hf it (by simp)
    exact wpAny_pyNext_range_end (I.ok.hd hc) st (by have : n ≤ i := hg; omega) fun h' eb => ⟨rfl, I.turned (t' := s.toks) (fun b o hb e => eb b o hb e) f0 f1 f3 f4 f5⟩
  self := fun _ _ _ _ _ st h => wpAny_pyIter_rangeiter st h
end L2
namespace L2
open PySem PySem.Spec PyProof.Rows
section
variable {X : Cx} {tg : Expr}
noncomputable def iList (K : PySem.W.Frag) (tl : TE) : TI := fun σ H R => tl σ H fun x H1 => ∃ a, x = .ref a ∧ (∃ xs, SqL K H1 a xs) ∧ R (Itl K a) H1
noncomputable def iTup (K : PySem.W.Frag) (tl : TE) : TI := fun σ H R => tl σ H fun x H1 => ∃ a, x = .ref a ∧ (∃ xs, SqT K H1 a xs) ∧ R (Itt K a) H1
theorem pi_list {l : Expr} {tl : TE} (hl : PE X l tl) : PI X tg l (iList X.K tl) := by
  intro pins s σ H R I h
  refine thn (hl pins s σ H _ I h) fun v s1 ⟨x, H1, I1, r1, q1⟩ => ?_
  obtain ⟨a, e, ⟨xs, hq⟩, q⟩ := q1
  subst e
  cases r1
  obtain ⟨its, rv, p, hz⟩ := I1.list hq
  refine wpAny_pyIter_list p.isList ?_
  refine ⟨s1.heap.objs.size, [s1.heap.objs.size], _, _, H1, rfl, I1.kept (t' := s1.toks) fun b o e => Heap.get?_push_of_some _ e, turn_list a _, ⟨_, Heap.get?_push_size _ rfl, rfl, rfl⟩, fun b hb => ?_, q⟩
  have e : b = s1.heap.objs.size := by simpa using hb
  subst e
  exact I1.fpOk (Nat.le_refl _) (I1.hok.fresh (Nat.le_refl _))
theorem pi_tup {l : Expr} {tl : TE} (hl : PE X l tl) : PI X tg l (iTup X.K tl) := by
  intro pins s σ H R I h
  refine thn (hl pins s σ H _ I h) fun v s1 ⟨x, H1, I1, r1, q1⟩ => ?_
  obtain ⟨a, e, ⟨xs, hq⟩, q⟩ := q1
  subst e
  cases r1
  obtain ⟨its, rv, p, hz⟩ := I1.tuple hq
  refine wpAny_pyIter_tuple (show s1.heap.IsTuple a its.toArray from p) ?_
  refine ⟨s1.heap.objs.size, [s1.heap.objs.size], _, _, H1, rfl, I1.kept (t' := s1.toks) fun b o e => Heap.get?_push_of_some _ e, turn_tuple a _, ⟨_, Heap.get?_push_size _ rfl, rfl, rfl⟩, fun b hb => ?_, q⟩
  have e : b = s1.heap.objs.size := by simpa using hb
  subst e
  exact I1.fpOk (Nat.le_refl _) (I1.hok.fresh (Nat.le_refl _))
theorem range_it {pins : List (Addr × Obj)} {σ : St} {H : Hp} {s : Shared} {R : It → Hp → Prop} {E : Value → Shared → Prop} {lo hi : Int} {t u v : Tok} {tk : Nat} (I : Inv X pins σ H s) (h1 : -(2 ^ 62) ≤ lo) (h2 : lo < 2 ^ 62) (h3 : -(2 ^ 62) ≤ hi) (h4 : hi < 2 ^ 62)
    (q : R (Itr lo (hi - lo).toNat) H) : wpAny (model X.prog X.w) X.A (pyIter (.ref s.heap.objs.size)) (PIE X pins σ tg R) E { s with heap := s.heap.push { cls := .type "range", data := .fields #[.int lo t, .int hi u, .int 1 v] }, toks := tk } := by
  refine wpAny_pyIter_range (IsRange.new ..) (small_one h1 h2 h3 h4) ?_
  have I1 : Inv X pins σ H { s with heap := s.heap.push { cls := .type "range", data := .fields #[.int lo t, .int hi u, .int 1 v] }, toks := tk } := I.kept fun b o e => Heap.get?_push_of_some _ e
  refine ⟨(s.heap.push { cls := .type "range", data := .fields #[.int lo t, .int hi u, .int 1 v] }).objs.size, [(s.heap.push { cls := .type "range", data := .fields #[.int lo t, .int hi u, .int 1 v] }).objs.size], _, _, H, rfl,
    I1.kept (t' := tk) fun b o e => Heap.get?_push_of_some _ e, turn_range _ lo (hi - lo).toNat, ?_, fun b hb => ?_, q⟩
  · have e1 : lo + ((0 : Nat) : Int) * 1 = lo := by simp
    have e2 : (((hi - lo).toNat : Nat) : Int) - ((0 : Nat) : Int) = Builtin.Range.rangeSize lo hi 1 := by rw [rangeSize_one]; split <;> omega
    show IsRangeIter _ _ (lo + ((0 : Nat) : Int) * 1) ((((hi - lo).toNat : Nat) : Int) - ((0 : Nat) : Int)) 1
    rw [e1, e2]
    exact Heap.get?_push_size _ rfl
  · have e : b = (s.heap.push { cls := .type "range", data := .fields #[.int lo t, .int hi u, .int 1 v] }).objs.size := by simpa using hb
    subst e
    exact I1.fpOk (Nat.le_refl _) (I1.hok.fresh (Nat.le_refl _))
noncomputable def iRng1 (ta : TA) : TI := fun σ H R => ta σ H fun vs H1 => ∃ j : Int, vs = [.int j] ∧ -(2 ^ 62) ≤ j ∧ j < 2 ^ 62 ∧ R (Itr 0 j.toNat) H1
noncomputable def iRng2 (ta : TA) : TI := fun σ H R => ta σ H fun vs H1 => ∃ i j : Int, vs = [.int i, .int j] ∧ (-(2 ^ 62) ≤ i ∧ i < 2 ^ 62 ∧ -(2 ^ 62) ≤ j ∧ j < 2 ^ 62) ∧ R (Itr i (j - i).toNat) H1
theorem pi_range1 {a : Expr} {ta : TA} {p pos : Pos} (hg : Gl X "range") (hm : X.mg "range" = none) (ha : PA X [a] ta) (hs : starEach [a] X.env = [(false, eval a X.env)] := by rfl) : PI X tg (.Call (.Name "range" p) [a] [] pos) (iRng1 ta) := by
  intro pins s σ H R I h
  refine Call_ (ld_blt I hg hm boot_range (PyProof.Rows.callWith_type1 (thn (ha pos pins s σ H _ I h) fun us s1 ⟨vs, H1, I1, r1, q1⟩ => ?_) hs rfl))
  obtain ⟨j, e, q1, q2, q⟩ := q1
  subst e
  cases r1 with
  | cons r rr =>
    cases rr
    obtain ⟨t, rfl⟩ := r
    exact call_range_1 (range_it I1 (by omega) (by omega) q1 q2 (by simpa using q))
theorem pi_range2 {a b : Expr} {ta : TA} {p pos : Pos} (hg : Gl X "range") (hm : X.mg "range" = none) (ha : PA X [a, b] ta) (hs : starEach [a, b] X.env = [(false, eval a X.env), (false, eval b X.env)] := by rfl) (hs2 : starEach [b] X.env = [(false, eval b X.env)] := by rfl) :
    PI X tg (.Call (.Name "range" p) [a, b] [] pos) (iRng2 ta) := by
  intro pins s σ H R I h
  refine Call_ (ld_blt I hg hm boot_range (PyProof.Rows.callWith_type1 (thn (ha pos pins s σ H _ I h) fun us s1 ⟨vs, H1, I1, r1, q1⟩ => ?_) (by rw [hs, hs2]) (by rw [hs2]; rfl)))
  obtain ⟨i, j, e, ⟨q1, q2, q3, q4⟩, q⟩ := q1
  subst e
  cases r1 with
  | cons r rr =>
    cases rr with
    | cons r' rr =>
      cases rr
      obtain ⟨t, rfl⟩ := r
      obtain ⟨t', rfl⟩ := r'
      exact call_range_2 (range_it I1 q1 q2 q3 q4 q)
noncomputable def tFor (wi : TI) (g : TG) (tb : TS) : TS := fun D σ H => wi σ H fun J H1 => ∃ W : Nat → Nat → St → Hp → Prop, (∃ m, W 0 m σ H1) ∧ ∀ i m σ H, W i m σ H →
  (J.stop i H ∧ D.nx σ H) ∨ (J.go i H ∧ ∃ N : St → Hp → Prop, (∀ σ' H', N σ' H' → ∃ m', m' < m ∧ W (i + 1) m' σ' H') ∧ ∀ x H', J.yld i H x H' → g x σ H' fun σ2 H2 => tb { D with nx := N, ct := N, bk := D.nx } σ2 H2)
noncomputable def pinsAt (fp : List Addr) (h : Heap) : List (Addr × Obj) := fp.filterMap fun b => (h.get? b).map fun o => (b, o)
theorem mem_pinsAt {fp : List Addr} {h : Heap} {b : Addr} {o : Obj} (hb : b ∈ fp) (e : h.get? b = some o) : (b, o) ∈ pinsAt fp h := List.mem_filterMap.mpr ⟨b, hb, by rw [e]; rfl⟩
theorem of_pinsAt {fp : List Addr} {h : Heap} {p : Addr × Obj} (hp : p ∈ pinsAt fp h) : p.1 ∈ fp ∧ h.get? p.1 = some p.2 := by
  obtain ⟨b, hb, e⟩ := List.mem_filterMap.mp hp
  cases q : h.get? b with
  | none => rw [q] at e; cases e
  | some o =>
    rw [q] at e
    have e' : (b, o) = p := Option.some.inj e
    subst e'
    exact ⟨hb, q⟩
theorem Inv.pinned {pins : List (Addr × Obj)} {σ : St} {H : Hp} {s : Shared} {fp : List Addr} (I : Inv X pins σ H s) (hf : ∀ b ∈ fp, FpOk X pins H b) (ho : ∀ b ∈ fp, ∃ o, s.heap.get? b = some o ∧ ∀ v, o.data ≠ .cell v) : Inv X (pins ++ pinsAt fp s.heap) σ H s :=
  I.pins_of fun p hp => (List.mem_append.mp hp).elim (fun z => I.pin p (List.mem_append_right _ z)) fun z => by
    obtain ⟨hb, e⟩ := of_pinsAt z
    obtain ⟨f0, f1, f2, _⟩ := hf p.1 hb
    obtain ⟨o, e', d⟩ := ho p.1 hb
    rw [e] at e'; cases e'
    exact ⟨e, f0, f1, f2, d⟩
theorem Inv.unpinned {pins pl : List (Addr × Obj)} {σ : St} {H : Hp} {s : Shared} (I : Inv X (pins ++ pl) σ H s) : Inv X pins σ H s := I.pins_of fun p hp => I.pin p (List.mem_append_right _ (List.mem_append_left _ hp))
theorem ps_for {iter : Expr} {body : List Stmt} {wi : TI} {g : TG} {tb : TS} {pos : Pos} (hp : PassesOwn (model X.prog X.w) X.A X.env X.xe) (hc : X.calm = true) (hi : PI X tg iter wi) (hg : PG X tg g) (hb : PSs X body tb)
    (hs : ∀ x, foldedSetIterable iter X.env x = pure x := by intro _; rfl) : PS X (.For tg iter body [] pos) (tFor wi g tb) := by
  intro pins s σ H D I h
  refine wpAny_For (thn (hi pins s σ H _ I h) fun v s1 h1 => thn h1 fun itv s2 h2 => ?_) hs
  obtain ⟨it, fp, tn, J, H2, e, I2, T, st2, f2, W, ⟨m0, w0⟩, turn⟩ := h2
  subst e
  have stat : ∀ {H' : Hp}, (∀ b ∈ fp, H' b = none) → ∀ b ∈ fp, FpOk X pins H' b := fun hn b hb => ⟨hn b hb, (f2 b hb).2⟩
  refine codeAny_forLoop_any (fun n s' => ∃ i σ' H', Inv X pins σ' H' s' ∧ tn i s'.heap ∧ (∀ b ∈ fp, H' b = none) ∧ W i n σ' H') ?_ m0 ⟨0, σ, H2, I2, st2, fun b hb => (f2 b hb).1, w0⟩
  rintro n s3 ⟨i, σ3, H3, I3, st3, fr3, w3⟩
  rcases turn i n σ3 H3 w3 with ⟨stop, qn⟩ | ⟨go, N, hN, step⟩
  · refine wpAny_passesOwn hp (thn (T.done X rfl rfl rfl hc i pins s3 σ3 H3 X.xe I3 (stat fr3) st3 stop) fun r s4 ⟨hr, I4⟩ => ?_)
    subst hr
    exact wpAny_execs_nil ⟨σ3, H3, I4, qn⟩
  · refine wpAny_passesOwn hp (thn (T.item X rfl rfl rfl hc i pins s3 σ3 H3 X.xe I3 (stat fr3) st3 go) fun r s4 ⟨u, hr, h4⟩ => ?_)
    subst hr
    refine wpAny_passesOwn hp (thn h4 fun _ s5 ⟨x, H5, I5, r5, y5, st5, fr5⟩ => ?_)
    have I5' := I5.pinned (stat fr5) (T.obj _ _ st5)
    refine wpAny_passesOwn hp (thn (hg _ s5 σ3 H5 x u _ I5' r5 (step x H5 y5)) fun _ s6 ⟨σ6, H6, I6, q6⟩ => ?_)
    refine wpAny_passesOwn hp (thn (hb _ s6 σ6 H6 _ I6 q6) fun f s7 q7 => ?_)
    have again : ∀ {σ7 : St} {H7 : Hp}, Inv X (pins ++ pinsAt fp s5.heap) σ7 H7 s7 → N σ7 H7 → ∃ m, m < n ∧ ∃ i σ' H', Inv X pins σ' H' s7 ∧ tn i s7.heap ∧ (∀ b ∈ fp, H' b = none) ∧ W i m σ' H' := fun {σ7 H7} I7 n7 => by
      obtain ⟨m', hm, w7⟩ := hN σ7 H7 n7
      refine ⟨m', hm, i + 1, σ7, H7, I7.unpinned, T.keep _ _ _ st5 fun b hb o e => (I7.pin (b, o) (List.mem_append_right _ (List.mem_append_right _ (mem_pinsAt hb e)))).1, fun b hb => ?_, w7⟩
      obtain ⟨o, e, d⟩ := T.obj _ _ st5 b hb
      exact (I7.pin (b, o) (List.mem_append_right _ (List.mem_append_right _ (mem_pinsAt hb e)))).2.1
    cases f with
    | next => obtain ⟨σ7, H7, I7, n7⟩ := q7; exact again I7 n7
    | cont => obtain ⟨σ7, H7, I7, n7⟩ := q7; exact again I7 n7
    | brk => obtain ⟨σ7, H7, I7, q7⟩ := q7; exact ⟨σ7, H7, I7.unpinned, q7⟩
    | ret v => obtain ⟨x7, σ7, H7, I7, r7, q7⟩ := q7; exact ⟨x7, σ7, H7, I7.unpinned, r7, q7⟩
end
theorem for_list {K : PySem.W.Frag} {a : Addr} {xs : List V} {g : TG} {tb : TS} {D : Ends} {σ : St} {H : Hp} (Pv : Nat → St → Hp → Prop) (h0 : Pv 0 σ H) (hl : ∀ i σ H, i ≤ xs.length → Pv i σ H → SqL K H a xs)
    (hs : ∀ i x σ H, xs[i]? = some x → Pv i σ H → g x σ H fun σ2 H2 => tb { D with nx := Pv (i + 1), ct := Pv (i + 1), bk := D.nx } σ2 H2) (hd : ∀ σ H, Pv xs.length σ H → D.nx σ H) :
    ∃ W : Nat → Nat → St → Hp → Prop, (∃ m, W 0 m σ H) ∧ ∀ i m σ H, W i m σ H →
      ((Itl K a).stop i H ∧ D.nx σ H) ∨ ((Itl K a).go i H ∧ ∃ N : St → Hp → Prop, (∀ σ' H', N σ' H' → ∃ m', m' < m ∧ W (i + 1) m' σ' H') ∧ ∀ x H', (Itl K a).yld i H x H' → g x σ H' fun σ2 H2 => tb { D with nx := N, ct := N, bk := D.nx } σ2 H2) := by
  refine ⟨fun i m σ H => m = xs.length - i ∧ i ≤ xs.length ∧ Pv i σ H, ⟨xs.length, by simp, Nat.zero_le _, h0⟩, ?_⟩
  rintro i m σ H ⟨rfl, hi, p⟩
  have q := hl i σ H hi p
  by_cases hlt : i < xs.length
  · refine .inr ⟨⟨xs, xs[i], q, by simp [hlt]⟩, Pv (i + 1), fun σ' H' p' => ⟨xs.length - (i + 1), by omega, rfl, hlt, p'⟩, fun x H' y => ?_⟩
    obtain ⟨e, y⟩ := y
    subst e
    exact hs i x σ _ (y xs q) p
  · have e : i = xs.length := by omega
    subst e
    exact .inl ⟨⟨xs, q, Nat.le_refl _⟩, hd σ H p⟩
theorem for_tup {K : PySem.W.Frag} {a : Addr} {xs : List V} {g : TG} {tb : TS} {D : Ends} {σ : St} {H : Hp} (Pv : Nat → St → Hp → Prop) (h0 : Pv 0 σ H) (hl : ∀ i σ H, i ≤ xs.length → Pv i σ H → SqT K H a xs)
    (hs : ∀ i x σ H, xs[i]? = some x → Pv i σ H → g x σ H fun σ2 H2 => tb { D with nx := Pv (i + 1), ct := Pv (i + 1), bk := D.nx } σ2 H2) (hd : ∀ σ H, Pv xs.length σ H → D.nx σ H) :
    ∃ W : Nat → Nat → St → Hp → Prop, (∃ m, W 0 m σ H) ∧ ∀ i m σ H, W i m σ H →
      ((Itt K a).stop i H ∧ D.nx σ H) ∨ ((Itt K a).go i H ∧ ∃ N : St → Hp → Prop, (∀ σ' H', N σ' H' → ∃ m', m' < m ∧ W (i + 1) m' σ' H') ∧ ∀ x H', (Itt K a).yld i H x H' → g x σ H' fun σ2 H2 => tb { D with nx := N, ct := N, bk := D.nx } σ2 H2) := by
  refine ⟨fun i m σ H => m = xs.length - i ∧ i ≤ xs.length ∧ Pv i σ H, ⟨xs.length, by simp, Nat.zero_le _, h0⟩, ?_⟩
  rintro i m σ H ⟨rfl, hi, p⟩
  have q := hl i σ H hi p
  by_cases hlt : i < xs.length
  · refine .inr ⟨⟨xs, xs[i], q, by simp [hlt]⟩, Pv (i + 1), fun σ' H' p' => ⟨xs.length - (i + 1), by omega, rfl, hlt, p'⟩, fun x H' y => ?_⟩
    obtain ⟨e, y⟩ := y
    subst e
    exact hs i x σ _ (y xs q) p
  · have e : i = xs.length := by omega
    subst e
    exact .inl ⟨⟨xs, q, Nat.le_refl _⟩, hd σ H p⟩
theorem for_range {lo : Int} {n : Nat} {g : TG} {tb : TS} {D : Ends} {σ : St} {H : Hp} (Pv : Nat → St → Hp → Prop) (h0 : Pv 0 σ H)
    (hs : ∀ i σ H, i < n → Pv i σ H → g (.int (lo + i)) σ H fun σ2 H2 => tb { D with nx := Pv (i + 1), ct := Pv (i + 1), bk := D.nx } σ2 H2) (hd : ∀ σ H, Pv n σ H → D.nx σ H) :
    ∃ W : Nat → Nat → St → Hp → Prop, (∃ m, W 0 m σ H) ∧ ∀ i m σ H, W i m σ H →
      ((Itr lo n).stop i H ∧ D.nx σ H) ∨ ((Itr lo n).go i H ∧ ∃ N : St → Hp → Prop, (∀ σ' H', N σ' H' → ∃ m', m' < m ∧ W (i + 1) m' σ' H') ∧ ∀ x H', (Itr lo n).yld i H x H' → g x σ H' fun σ2 H2 => tb { D with nx := N, ct := N, bk := D.nx } σ2 H2) := by
  refine ⟨fun i m σ H => m = n - i ∧ i ≤ n ∧ Pv i σ H, ⟨n, by simp, Nat.zero_le _, h0⟩, ?_⟩
  rintro i m σ H ⟨rfl, hi, p⟩
  by_cases hlt : i < n
  · refine .inr ⟨hlt, Pv (i + 1), fun σ' H' p' => ⟨n - (i + 1), by omega, rfl, hlt, p'⟩, fun x H' y => ?_⟩
    obtain ⟨e, y⟩ := y
    subst e y
    exact hs i σ _ hlt p
  · have e : i = n := by omega
    subst e
    exact .inl ⟨Nat.le_refl _, hd σ H p⟩
theorem while_by {c : TT} {tb : TS} {D : Ends} {σ : St} {H : Hp} (Pv : St → Hp → Prop) (μ : St → Hp → Nat) (h0 : Pv σ H)
    (hs : ∀ σ H, Pv σ H → c σ H fun b H1 => if b = true then tb { D with nx := fun σ' H' => Pv σ' H' ∧ μ σ' H' < μ σ H, ct := fun σ' H' => Pv σ' H' ∧ μ σ' H' < μ σ H, bk := D.nx } σ H1 else D.nx σ H1)
    (mono : ∀ σ H Q Q', (∀ b H1, Q b H1 → Q' b H1) → c σ H Q → c σ H Q') : tWhile c tb D σ H := by
  refine ⟨fun m σ H => m = μ σ H ∧ Pv σ H, ⟨_, rfl, h0⟩, ?_⟩
  rintro m σ H ⟨rfl, p⟩
  refine mono σ H _ _ (fun b H1 q => ?_) (hs σ H p)
  cases b with
  | true => exact ⟨_, fun σ' H' ⟨p', l⟩ => ⟨_, l, rfl, p'⟩, q⟩
  | false => exact q
end L2
namespace L2
open PySem PySem.Spec PyProof.Rows
noncomputable abbrev R2 := V → V → Hp → VK → Prop
noncomputable def OpR (X : Cx) (f : Value → Value → Sem Value) (r : R2) : Prop :=
  ∀ (pins : List (Addr × Obj)) (s : Shared) (σ : St) (H : Hp) (x y : V) (v u : Value) (Q : VK), Inv X pins σ H s → RelV x v → RelV y u → r x y H Q →
    wpAny (model X.prog X.w) X.A (f v u) (EP X pins σ Q) X.xe s
noncomputable def UnR (X : Cx) (f : Value → Sem Value) (r : V → Hp → VK → Prop) : Prop :=
  ∀ (pins : List (Addr × Obj)) (s : Shared) (σ : St) (H : Hp) (x : V) (v : Value) (Q : VK), Inv X pins σ H s → RelV x v → r x H Q →
    wpAny (model X.prog X.w) X.A (f v) (EP X pins σ Q) X.xe s
noncomputable def CallR (X : Cx) (f : Value) (r : List V → Hp → VK → Prop) : Prop :=
  ∀ (pins : List (Addr × Obj)) (s : Shared) (σ : St) (H : Hp) (xs : List V) (us : List Value) (Q : VK), Inv X pins σ H s → Vals xs us → r xs H Q →
    wpAny (model X.prog X.w) X.A (call f us) (EP X pins σ Q) X.xe s
noncomputable def TruR (X : Cx) (r : V → Hp → (Bool → Hp → Prop) → Prop) : Prop :=
  ∀ (pins : List (Addr × Obj)) (s : Shared) (σ : St) (H : Hp) (x : V) (v : Value) (Q : Bool → Hp → Prop), Inv X pins σ H s → RelV x v → r x H Q →
    wpAny (model X.prog X.w) X.A (truthy v) (TP X pins σ Q) X.xe s
noncomputable def tOp (r : R2) (ta tb : TE) : TE := fun σ H Q => ta σ H fun x H1 => tb σ H1 fun y H2 => r x y H2 Q
noncomputable def tUn (r : V → Hp → VK → Prop) (ta : TE) : TE := fun σ H Q => ta σ H fun x H1 => r x H1 Q
noncomputable def rI (C : Int → Int → Prop) (g : Int → Int → V) : R2 := fun x y H Q => ∃ i j, x = .int i ∧ y = .int j ∧ C i j ∧ Q (g i j) H
noncomputable def rI0 (g : Int → Int → V) : R2 := fun x y H Q => ∃ i j, x = .int i ∧ y = .int j ∧ Q (g i j) H
noncomputable def rU (g : Int → V) : V → Hp → VK → Prop := fun x H Q => ∃ i, x = .int i ∧ Q (g i) H
section
variable {X : Cx} {a b c : Expr} {ta tb tc : TE} {pos : Pos}
theorem binT (ha : PE X a ta) (hb : PE X b tb) {pins : List (Addr × Obj)} {s : Shared} {σ : St} {H : Hp} {R : V → V → Hp → Prop} (I : Inv X pins σ H s)
    (h : ta σ H fun x H1 => tb σ H1 fun y H2 => R x y H2) {Q : Value → Shared → Prop} {f : Value → Value → Sem Value}
    (hf : ∀ v u s2 x y H2, Inv X pins σ H2 s2 → RelV x v → RelV y u → R x y H2 → wpAny (model X.prog X.w) X.A (f v u) Q X.xe s2) :
    wpAny (model X.prog X.w) X.A (eval a X.env) (fun v s₁ => wpAny (model X.prog X.w) X.A (eval b X.env) (fun u s₂ => wpAny (model X.prog X.w) X.A (f v u) Q X.xe s₂) X.xe s₁) X.xe s := by
  refine thn (ha pins s σ H _ I h) fun v s1 ⟨x, H1, I1, r1, q1⟩ => ?_
  refine thn (hb pins s1 σ H1 _ I1 q1) fun u s2 ⟨y, H2, I2, r2, q2⟩ => ?_
  exact hf v u s2 x y H2 I2 r1 r2 q2
theorem pe_op {op : Operator} {r : R2} (ho : OpR X (binaryOp op) r) (ha : PE X a ta) (hb : PE X b tb) : PE X (.BinOp a op b pos) (tOp r ta tb) := by
  intro pins s σ H Q I h
  exact wpAny_BinOp (binT ha hb I h fun v u s2 x y H2 I2 rx ry q => ho pins s2 σ H2 x y v u Q I2 rx ry q)
theorem pe_un {op : UnaryOp} {r : V → Hp → VK → Prop} (ho : UnR X (unaryOp op) r) (ha : PE X a ta) : PE X (.UnaryOp op a pos) (tUn r ta) := by
  intro pins s σ H Q I h
  exact UnaryOp_ (thn (ha pins s σ H _ I h) fun v s1 ⟨x, H1, I1, r1, q1⟩ => ho pins s1 σ H1 x v Q I1 r1 q1)
theorem opI {f : Value → Value → Sem Value} {C : Int → Int → Prop} {g : Int → Int → Int}
    (rule : ∀ (i j : Int) (t u : Tok) (s : Shared) (Q : Value → Shared → Prop) (E : Value → Shared → Prop), C i j → Q (.int (g i j) s.toks) { s with toks := s.toks + 1 } → wpAny (model X.prog X.w) X.A (f (.int i t) (.int j u)) Q E s) :
    OpR X f (rI C fun i j => .int (g i j)) := by
  intro pins s σ H x y v u Q I rx ry h
  obtain ⟨i, j, rfl, rfl, hc, q⟩ := h
  obtain ⟨t, rfl⟩ := rx
  obtain ⟨t', rfl⟩ := ry
  exact rule i j t t' s _ _ hc ⟨.int (g i j), H, I.tok _, ⟨_, rfl⟩, q⟩
theorem opI0 {f : Value → Value → Sem Value} {g : Int → Int → Int}
    (rule : ∀ (i j : Int) (t u : Tok) (s : Shared) (Q : Value → Shared → Prop) (E : Value → Shared → Prop), Q (.int (g i j) s.toks) { s with toks := s.toks + 1 } → wpAny (model X.prog X.w) X.A (f (.int i t) (.int j u)) Q E s) :
    OpR X f (rI0 fun i j => .int (g i j)) := by
  intro pins s σ H x y v u Q I rx ry h
  obtain ⟨i, j, rfl, rfl, q⟩ := h
  obtain ⟨t, rfl⟩ := rx
  obtain ⟨t', rfl⟩ := ry
  exact rule i j t t' s _ _ ⟨.int (g i j), H, I.tok _, ⟨_, rfl⟩, q⟩
theorem opB0 {f : Value → Value → Sem Value} {g : Int → Int → Bool}
    (rule : ∀ (i j : Int) (t u : Tok) (s : Shared) (Q : Value → Shared → Prop) (E : Value → Shared → Prop), Q (.bool (g i j)) s → wpAny (model X.prog X.w) X.A (f (.int i t) (.int j u)) Q E s) :
    OpR X f (rI0 fun i j => .bl (g i j)) := by
  intro pins s σ H x y v u Q I rx ry h
  obtain ⟨i, j, rfl, rfl, q⟩ := h
  obtain ⟨t, rfl⟩ := rx
  obtain ⟨t', rfl⟩ := ry
  exact rule i j t t' s _ _ ⟨.bl (g i j), H, I, rfl, q⟩
noncomputable def CDiv (i j : Int) : Prop := 0 < j ∧ j < 1073741824
noncomputable def CPow (i j : Int) : Prop := 0 ≤ j ∧ j ≤ 1000000 ∧ i.natAbs < 2 ^ 64
noncomputable def CMul (i j : Int) : Prop := (-(2 ^ 64) < i ∧ i < 2 ^ 64) ∨ (-(2 ^ 64) < j ∧ j < 2 ^ 64)
theorem CMul.ok {i j : Int} (h : CMul i j) : IntMulOk i j := by
  rcases h with ⟨h1, h2⟩ | ⟨h1, h2⟩
  · exact .of_left (intBits_le_64 h1 h2)
  · exact .of_right (intBits_le_64 h1 h2)
theorem two_pow_nn (k : Nat) : (0 : Int) ≤ 2 ^ k := by
  rw [two_pow_cast]
  exact Int.natCast_nonneg _
theorem op_add : OpR X (binaryOp .Add) (rI0 fun i j => .int (i + j)) := opI0 fun _ _ _ _ _ _ _ q => add_int q
theorem op_sub : OpR X (binaryOp .Sub) (rI0 fun i j => .int (i - j)) := opI0 fun _ _ _ _ _ _ _ q => sub_int q
theorem op_mul : OpR X (binaryOp .Mult) (rI CMul fun i j => .int (i * j)) := opI fun _ _ _ _ _ _ _ hc q => mul_int q hc.ok
theorem op_fdiv : OpR X (binaryOp .FloorDiv) (rI CDiv fun i j => .int (i / j)) := opI fun i j _ _ _ _ _ hc q => by
  have h1 : (0 : Int) < j := hc.1
  have h2 : j < 1073741824 := hc.2
  exact floordiv_int (by omega) (by rw [Int.fdiv_eq_ediv_of_nonneg i (by omega)]; exact q) (.inl (PyProof.noPylong_small (by omega)))
theorem op_mod : OpR X (binaryOp .Mod) (rI (fun _ j => 0 < j) fun i j => .int (i % j)) := opI fun i j _ _ _ _ _ hc q => by
  have h1 : (0 : Int) < j := hc
  exact mod_int' (by omega) (by rw [Int.fmod_eq_emod_of_nonneg i (by omega)]; exact q)
theorem op_pow : OpR X (binaryOp .Pow) (rI CPow fun i j => .int (i ^ j.toNat)) := opI fun _ _ _ _ _ _ _ hc q => pow_int_small hc.1 hc.2.1 hc.2.2 q
theorem op_shl : OpR X (binaryOp .LShift) (rI CPow fun i j => .int (i * 2 ^ j.toNat)) := opI fun _ _ _ _ _ _ _ hc q => lshift_int_small hc.1 hc.2.1 hc.2.2 q
theorem op_shr : OpR X (binaryOp .RShift) (rI (fun _ j => 0 ≤ j) fun i j => .int (i / 2 ^ j.toNat)) := opI fun i j _ _ _ _ _ hc q =>
  rshift_int hc (by rw [Int.fdiv_eq_ediv_of_nonneg i (two_pow_nn _)]; exact q)
theorem op_and : OpR X (binaryOp .BitAnd) (rI0 fun i j => .int (Builtin.bitAnd i j)) := opI0 fun _ _ _ _ _ _ _ q => and_int q
theorem op_or : OpR X (binaryOp .BitOr) (rI0 fun i j => .int (Builtin.bitOr i j)) := opI0 fun _ _ _ _ _ _ _ q => or_int q
theorem iop_or : OpR X (inplaceOp .BitOr) (rI0 fun i j => .int (Builtin.bitOr i j)) := opI0 fun _ _ _ _ _ _ _ q => ior_int q
theorem unI {f : Value → Sem Value} {g : Int → Int}
    (rule : ∀ (i : Int) (t : Tok) (s : Shared) (Q : Value → Shared → Prop) (E : Value → Shared → Prop), Q (.int (g i) s.toks) { s with toks := s.toks + 1 } → wpAny (model X.prog X.w) X.A (f (.int i t)) Q E s) :
    UnR X f (rU fun i => .int (g i)) := by
  intro pins s σ H x v Q I rx h
  obtain ⟨i, rfl, q⟩ := h
  obtain ⟨t, rfl⟩ := rx
  exact rule i t s _ _ ⟨.int (g i), H, I.tok _, ⟨_, rfl⟩, q⟩
theorem un_neg : UnR X (unaryOp .USub) (rU fun i => .int (-i)) := unI fun _ _ _ _ _ q => neg_int q
end
noncomputable def scal : V → V → Bool
  | .non, .non => true | .non, .int _ => true | .int _, .non => true | .non, .bl _ => true | .bl _, .non => true | .non, .str _ => true | .str _, .non => true
  | .int _, .int _ => true | .bl _, .bl _ => true | .str _, .str _ => true | .byt _, .byt _ => true
  | .int _, .str _ => true | .str _, .int _ => true | .bl _, .str _ => true | .str _, .bl _ => true
  | _, _ => false
noncomputable def rEq : R2 := fun x y H Q => scal x y = true ∧ Q (.bl (decide (x = y))) H
noncomputable def rNe : R2 := fun x y H Q => scal x y = true ∧ Q (.bl (!decide (x = y))) H
theorem dec_int {i j : Int} : decide (V.int i = V.int j) = (i == j) := by
  rw [Bool.eq_iff_iff]
  simp
theorem dec_bl {i j : Bool} : decide (V.bl i = V.bl j) = (i == j) := by
  rw [Bool.eq_iff_iff]
  simp
theorem dec_str {i j : Str} : decide (V.str i = V.str j) = (i == j) := by
  rw [Bool.eq_iff_iff]
  simp
theorem dec_byt {i j : Array UInt8} : decide (V.byt i = V.byt j) = (i.toList == j.toList) := by
  rw [Bool.eq_iff_iff]
  cases i
  cases j
  simp
section
variable {X : Cx} {a b c : Expr} {ta tb tc : TE} {pos : Pos}
theorem fin_bl {pins : List (Addr × Obj)} {σ : St} {H : Hp} {s : Shared} {Q : VK} {k k' : Bool} (I : Inv X pins σ H s) (q : Q (.bl k) H) (e : k = k') : EP X pins σ Q (.bool k') s := by
  subst e
  exact ⟨.bl k, H, I, rfl, q⟩
theorem op_eq : OpR X (compareOp .Eq) rEq := by
  intro pins s σ H x y v u Q I rx ry h
  obtain ⟨hs, q⟩ := h
  cases x with
  | non =>
    cases rx
    cases y with
    | non => cases ry; exact PySem.EqNone.eq_none_none (fin_bl I q (by simp))
    | bl j => cases ry; exact PySem.EqNone.eq_none_bool (fin_bl I q (by simp))
    | int j => obtain ⟨t', rfl⟩ := ry; exact PySem.EqNone.eq_none_int (fin_bl I q (by simp))
    | str j => obtain ⟨t', rfl⟩ := ry; exact PySem.EqNone.eq_none_str (fin_bl I q (by simp))
    | _ => exact absurd (show false = true from hs) Bool.false_ne_true
  | bl i =>
    cases rx
    cases y with
    | non => cases ry; exact PySem.EqNone.eq_bool_none (fin_bl I q (by simp))
    | bl j => cases ry; exact eq_bool (fin_bl I q dec_bl)
    | str j => obtain ⟨t', rfl⟩ := ry; exact PySem.EqMixed.eq_bool_str (fin_bl I q (by simp))
    | _ => exact absurd (show false = true from hs) Bool.false_ne_true
  | int i =>
    obtain ⟨t, rfl⟩ := rx
    cases y with
    | non => cases ry; exact PySem.EqNone.eq_int_none (fin_bl I q (by simp))
    | int j => obtain ⟨t', rfl⟩ := ry; exact eq_int (fin_bl I q dec_int)
    | str j => obtain ⟨t', rfl⟩ := ry; exact PySem.EqMixed.eq_int_str (fin_bl I q (by simp))
    | _ => exact absurd (show false = true from hs) Bool.false_ne_true
  | str i =>
    obtain ⟨t, rfl⟩ := rx
    cases y with
    | non => cases ry; exact PySem.EqNone.eq_str_none (fin_bl I q (by simp))
    | bl j => cases ry; exact PySem.EqMixed.eq_str_bool (fin_bl I q (by simp))
    | int j => obtain ⟨t', rfl⟩ := ry; exact PySem.EqMixed.eq_str_int (fin_bl I q (by simp))
    | str j => obtain ⟨t', rfl⟩ := ry; exact eq_str (fin_bl I q dec_str)
    | _ => exact absurd (show false = true from hs) Bool.false_ne_true
  | byt i =>
    obtain ⟨t, rfl⟩ := rx
    cases y with
    | byt j => obtain ⟨t', rfl⟩ := ry; exact PySem.W.eq_bytes (fin_bl I q dec_byt)
    | _ => exact absurd (show false = true from hs) Bool.false_ne_true
  | _ => cases y <;> exact absurd (show false = true from hs) Bool.false_ne_true
theorem op_ne : OpR X (compareOp .NotEq) rNe := by
  intro pins s σ H x y v u Q I rx ry h
  obtain ⟨hs, q⟩ := h
  cases x with
  | non =>
    cases rx
    cases y with
    | non => cases ry; exact PySem.EqNone.ne_none_none (fin_bl I q (by simp))
    | bl j => cases ry; exact PySem.EqNone.ne_none_bool (fin_bl I q (by simp))
    | int j => obtain ⟨t', rfl⟩ := ry; exact PySem.EqNone.ne_none_int (fin_bl I q (by simp))
    | str j => obtain ⟨t', rfl⟩ := ry; exact PySem.EqNone.ne_none_str (fin_bl I q (by simp))
    | _ => exact absurd (show false = true from hs) Bool.false_ne_true
  | bl i =>
    cases rx
    cases y with
    | non => cases ry; exact PySem.EqNone.ne_bool_none (fin_bl I q (by simp))
    | bl j => cases ry; exact ne_bool (fin_bl I q (congrArg not dec_bl))
    | str j => obtain ⟨t', rfl⟩ := ry; exact PySem.EqMixed.ne_bool_str (fin_bl I q (by simp))
    | _ => exact absurd (show false = true from hs) Bool.false_ne_true
  | int i =>
    obtain ⟨t, rfl⟩ := rx
    cases y with
    | non => cases ry; exact PySem.EqNone.ne_int_none (fin_bl I q (by simp))
    | int j => obtain ⟨t', rfl⟩ := ry; exact ne_int (fin_bl I q (congrArg not dec_int))
    | str j => obtain ⟨t', rfl⟩ := ry; exact PySem.EqMixed.ne_int_str (fin_bl I q (by simp))
    | _ => exact absurd (show false = true from hs) Bool.false_ne_true
  | str i =>
    obtain ⟨t, rfl⟩ := rx
    cases y with
    | non => cases ry; exact PySem.EqNone.ne_str_none (fin_bl I q (by simp))
    | bl j => cases ry; exact PySem.EqMixed.ne_str_bool (fin_bl I q (by simp))
    | int j => obtain ⟨t', rfl⟩ := ry; exact PySem.EqMixed.ne_str_int (fin_bl I q (by simp))
    | str j => obtain ⟨t', rfl⟩ := ry; exact ne_str (fin_bl I q (congrArg not dec_str))
    | _ => exact absurd (show false = true from hs) Bool.false_ne_true
  | byt i =>
    obtain ⟨t, rfl⟩ := rx
    cases y with
    | byt j => obtain ⟨t', rfl⟩ := ry; exact PySem.W.ne_bytes (fin_bl I q (congrArg not dec_byt))
    | _ => exact absurd (show false = true from hs) Bool.false_ne_true
  | _ => cases y <;> exact absurd (show false = true from hs) Bool.false_ne_true
theorem op_lt : OpR X (compareOp .Lt) (rI0 fun i j => .bl (decide (i < j))) := opB0 fun _ _ _ _ _ _ _ q => lt_int q
theorem op_le : OpR X (compareOp .LtE) (rI0 fun i j => .bl (decide (i ≤ j))) := opB0 fun _ _ _ _ _ _ _ q => le_int q
theorem op_gt : OpR X (compareOp .Gt) (rI0 fun i j => .bl (decide (j < i))) := opB0 fun _ _ _ _ _ _ _ q => gt_int q
theorem nomark (b : Expr) {op : CmpOp} (h : op ≠ .In := by decide) (h2 : op ≠ .NotIn := by decide) : behindInMarks op b = false := by
  have e1 : (op == CmpOp.In) = false := by cases op <;> first | rfl | exact absurd rfl h
  have e2 : (op == CmpOp.NotIn) = false := by cases op <;> first | rfl | exact absurd rfl h2
  cases b <;> simp [behindInMarks, e1, e2]
theorem pe_cmpR {op : CmpOp} {r : R2} (ho : OpR X (compareOp op) r) (ha : PE X a ta) (hb : PE X b tb) (hm : behindInMarks op b = false) : PE X (.Compare a [op] [b] pos) (tOp r ta tb) := by
  intro pins s σ H Q I h
  exact wpAny_Compare1 (binT ha hb I h fun v u s2 x y H2 I2 rx ry q => ho pins s2 σ H2 x y v u Q I2 rx ry q) hm
noncomputable def tTest (t : TE) : TT := fun σ H Q => t σ H fun x H' => ∃ k, x = .bl k ∧ Q k H'
theorem pt_cmpR {op : CmpOp} {r : R2} (ho : OpR X (compareOp op) r) (ha : PE X a ta) (hb : PE X b tb) (hm : behindInMarks op b = false) : PT X (.Compare a [op] [b] pos) (tTest (tOp r ta tb)) := by
  intro pins s σ H Q I h
  refine wpAny_isTrue_Compare1 (thn (ha pins s σ H _ I h) fun v s1 ⟨x, H1, I1, r1, q1⟩ => thn (hb pins s1 σ H1 _ I1 q1) fun u s2 ⟨y, H2, I2, r2, q2⟩ =>
    thn (ho pins s2 σ H2 x y v u _ I2 r1 r2 q2) fun c s3 ⟨z, H3, I3, r3, k, e, q3⟩ => ?_) hm
  subst e
  cases r3
  exact wpAny_truthy_bool ⟨H3, I3, q3⟩
noncomputable def TruV (K : PySem.W.Frag) (x : V) (H : Hp) (k : Bool) : Prop :=
  match x with
  | .non => k = false
  | .bl b => k = b
  | .int i => k = (i != 0)
  | .str y => y.length ≤ sizeLine ∧ k = ((y.length : Int) != 0)
  | .byt y => y.size ≤ sizeLine ∧ k = ((y.size : Int) != 0)
  | .ref p => (∃ xs, SqL K H p xs ∧ k = !xs.isEmpty) ∨ (∃ xs, SqT K H p xs ∧ k = !xs.isEmpty) ∨ ∃ kvs, H p = some (.dK kvs) ∧ k = !kvs.isEmpty
  | _ => False
theorem isEmpty_kv {κ : Type} {kvs : List (κ × V)} {vs : List (κ × Value)} (r : KV kvs vs) : (!vs.isEmpty) = !kvs.isEmpty := by
  cases r <;> rfl
theorem isEmpty_of {xs : List V} {its : List Value} (r : Vals xs its) : (!its.toArray.isEmpty) = !xs.isEmpty := by
  cases r <;> simp
theorem line63 : (sizeLine : Nat) < 2 ^ 63 := by rw [sizeLine_eq]; decide
theorem tru_ok : TruR X (fun x H Q => ∃ k, TruV X.K x H k ∧ Q k H) := by
  intro pins s σ H x v Q I rx h
  obtain ⟨k, e, q⟩ := h
  have hl := line63
  have hs : sizeLine = 16777216 := sizeLine_eq
  cases x with
  | non =>
    cases rx
    have e' : k = false := e
    subst e'
    exact truthy_none ⟨H, I, q⟩
  | bl b =>
    cases rx
    have e' : k = b := e
    subst e'
    exact wpAny_truthy_bool ⟨H, I, q⟩
  | int i =>
    obtain ⟨t, rfl⟩ := rx
    have e' : k = (i != 0) := e
    subst e'
    exact PySem.P.truthy_int ⟨H, I, q⟩
  | str y =>
    obtain ⟨t, rfl⟩ := rx
    obtain ⟨hy, e'⟩ : y.length ≤ sizeLine ∧ k = ((y.length : Int) != 0) := e
    subst e'
    exact PySem.P.truthy_str (by omega) ⟨H, I.tok _, q⟩
  | byt y =>
    obtain ⟨t, rfl⟩ := rx
    obtain ⟨hy, e'⟩ : y.size ≤ sizeLine ∧ k = ((y.size : Int) != 0) := e
    subst e'
    exact PySem.W.truthy_bytes (by omega) ⟨H, I.tok _, q⟩
  | ref p =>
    cases rx
    have e' : (∃ xs, SqL X.K H p xs ∧ k = !xs.isEmpty) ∨ (∃ xs, SqT X.K H p xs ∧ k = !xs.isEmpty) ∨ ∃ kvs, H p = some (.dK kvs) ∧ k = !kvs.isEmpty := e
    rcases e' with ⟨xs, hx, e'⟩ | ⟨xs, hx, e'⟩ | ⟨kvs, hx, e'⟩
    · subst e'
      obtain ⟨its, r, pl, hz⟩ := I.list hx
      have hlen := r.length
      exact wpAny_truthy_list pl.isList (by simp only [List.size_toArray]; omega) ⟨H, I.tok _, by rw [isEmpty_of r]; exact q⟩
    · subst e'
      obtain ⟨its, r, pl, hz⟩ := I.tuple hx
      have hlen := r.length
      exact truthy_tuple pl (by simp only [List.size_toArray]; omega) ⟨H, I.tok _, by rw [isEmpty_of r]; exact q⟩
    · subst e'
      obtain ⟨hz, hS, vs, r, m⟩ : kvs.length ≤ sizeLine ∧ (p == sysModules) = false ∧ ∃ vs, KV kvs vs ∧ s.heap.DictOf (mixKind X.prog X.w) p vs := I.hok p _ hx
      have hlen : kvs.length = vs.length := Paired.length r
      exact wpAny_truthy_dict hS m (by omega) ⟨H, I.tok _, by rw [isEmpty_kv r]; exact q⟩
  | _ => exact (show False from e).elim
theorem pt_truth (ha : PE X a ta) (he : ∀ whole, isTrue a X.env whole = (do let v ← whole; standAt a.pos; holding [v] (truthy v))) :
    PT X a (fun σ H Q => ta σ H fun x H' => ∃ k, TruV X.K x H' k ∧ Q k H') := by
  intro pins s σ H Q I h
  exact isTrue_plain (thn (ha pins s σ H _ I h) fun v s1 ⟨x, H1, I1, r1, q1⟩ => tru_ok pins s1 σ H1 x v Q I1 r1 q1) (he _)
theorem op_add_str : OpR X (binaryOp .Add) (fun x y H Q => ∃ i j, x = .str i ∧ y = .str j ∧ i.length + j.length ≤ sizeLine ∧ Q (.str (i ++ j)) H) := by
  intro pins s σ H x y v u Q I rx ry h
  obtain ⟨i, j, rfl, rfl, hz, q⟩ := h
  obtain ⟨t, rfl⟩ := rx
  obtain ⟨t', rfl⟩ := ry
  exact add_str (fun t' tk => ⟨.str (i ++ j), H, I.tok _, ⟨_, rfl⟩, q⟩) hz
theorem vals1 {x : V} {us : List Value} (r : Vals [x] us) : ∃ u, us = [u] ∧ RelV x u := by
  cases r with
  | cons r1 r2 => cases r2; exact ⟨_, rfl, r1⟩
theorem vals2 {x y : V} {us : List Value} (r : Vals [x, y] us) : ∃ u w', us = [u, w'] ∧ RelV x u ∧ RelV y w' := by
  cases r with
  | cons r1 r2 =>
    cases r2 with
    | cons r3 r4 => cases r4; exact ⟨_, _, rfl, r1, r3⟩
theorem call_min2 (hc : X.calm = true) : CallR X (.builtin "min") (fun xs H Q => ∃ i j, xs = [.int i, .int j] ∧ Q (.int (if j < i then j else i)) H) := by
  intro pins s σ H xs us Q I r h
  obtain ⟨i, j, rfl, q⟩ := h
  obtain ⟨u, w', rfl, ⟨t, rfl⟩, ⟨t', rfl⟩⟩ := vals2 r
  refine min_two_ints (I.ok.hd hc) fun h' tk k => ⟨_, H, I.kept k, ?_, q⟩
  by_cases hj : j < i
  · rw [if_pos hj, if_pos hj]; exact ⟨_, rfl⟩
  · rw [if_neg hj, if_neg hj]; exact ⟨_, rfl⟩
theorem call_int1 : CallR X (.type "int") (fun xs H Q => (∃ i, xs = [.int i] ∧ Q (.int i) H) ∨ ∃ k, xs = [.bl k] ∧ Q (.int (if k then 1 else 0)) H) := by
  intro pins s σ H xs us Q I r h
  rcases h with ⟨i, rfl, q⟩ | ⟨k, rfl, q⟩
  · obtain ⟨u, rfl, t, rfl⟩ := vals1 r
    exact call_int_int ⟨.int i, H, I, ⟨_, rfl⟩, q⟩
  · obtain ⟨u, rfl, r1⟩ := vals1 r
    cases r1
    exact call_int_bool ⟨.int (if k then 1 else 0), H, I.tok _, ⟨_, rfl⟩, q⟩
theorem call_str_int : CallR X (.type "str") (fun xs H Q => ∃ i, xs = [.int i] ∧ i.natAbs.log2 < 1920 ∧ Q (.str (toString i)) H) := by
  intro pins s σ H xs us Q I r h
  obtain ⟨i, rfl, hz, q⟩ := h
  obtain ⟨u, rfl, t, rfl⟩ := vals1 r
  exact PySem.P.str_of_int hz ⟨.str _, H, I.tok _, ⟨_, rfl⟩, q⟩
end
end L2
namespace L2
open PySem PySem.Spec PyProof.Rows
section
variable {prog : Program} {w : World} {A : Around} {E : Value → Shared → Prop} {s : Shared} {K : PySem.W.Frag} {x dx C f : Addr} {mA : Str → Option Value} {name : Str} {v : Value}
end
theorem RelO.some_of {v : V} {o : Option Value} (r : RelO (some v) o) : ∃ u, o = some u ∧ RelV v u := by
  cases o with
  | none => exact (show False from r).elim
  | some u => exact ⟨u, rfl, r⟩
section
variable {P : Program} {w : World} {H H' : Hp} {h h' : Heap} {a C dx : Addr} {fs fs' : List (Str × V)}
end
section
variable {X : Cx} {pins : List (Addr × Obj)} {σ : St} {H : Hp} {s : Shared} {a C dx : Addr} {fs : List (Str × V)} {f : Str} {v : V} {A : Around} {E : Value → Shared → Prop}
end
noncomputable def InOp (X : Cx) (op : Operator) (rd : V → V → Hp → VK → Prop) : Prop :=
  ∀ (pins : List (Addr × Obj)) (s : Shared) (σ : St) (H : Hp) (x y : V) (u v : Value) (Q : VK), Inv X pins σ H s → RelV x u → RelV y v → rd x y H Q → wpAny (model X.prog X.w) X.A (inplaceOp op u v) (EP X pins σ Q) X.xe s
section
variable {X : Cx} {o e value : Expr} {f : Str} {pos pos' tpos : Pos} {ta tv : TE}
noncomputable def rAdd : V → V → Hp → VK → Prop := fun x y H Q => ∃ i j, x = .int i ∧ y = .int j ∧ Q (.int (i + j)) H
theorem in_add : InOp X .Add rAdd := by
  rintro pins s σ H x y u v Q I rx ry ⟨i, j, rfl, rfl, q⟩
  obtain ⟨t, rfl⟩ := (show ∃ t, u = Value.int i t from rx)
  obtain ⟨t', rfl⟩ := (show ∃ t', v = Value.int j t' from ry)
  exact PyProof.Rows.iadd_int ⟨.int (i + j), H, I.tok _, ⟨_, rfl⟩, q⟩
end
section
variable {X : Cx} {pins : List (Addr × Obj)} {σ : St} {H : Hp} {s : Shared} {A : Around} {E : Value → Shared → Prop} {Q : Value → Shared → Prop} {c : Value} {b : Bool}
end
end L2
namespace L2
open PySem PySem.Spec PyProof.Rows
structure Room (k : Nat) (A : Around) : Prop where
  hd : A.handled = none
  dp : A.depth + 3 * k + 5 < recursionLimit
  un : A.units + 16 * k + 200 < cLine
theorem Room.mono {j k : Nat} {A : Around} (r : Room k A) (h : j ≤ k) : Room j A := ⟨r.hd, by have := r.dp; omega, by have := r.un; omega⟩
theorem Room.deeper {k : Nat} {A : Around} (r : Room (k + 1) A) (env : Env) : Room k (A.deeper env) :=
  ⟨r.hd, by have := r.dp; show A.depth + 1 + 3 * k + 5 < _; omega, by have := r.un; show A.units + 3 + 16 * k + 200 < _; omega⟩
theorem Room.depth {k : Nat} {A : Around} (r : Room k A) : A.depth < recursionLimit := by have := r.dp; omega
theorem Room.units {k : Nat} {A : Around} (r : Room k A) : A.units + 64 < cLine := by have := r.un; omega
noncomputable def tNil : TA := fun _ H Q => Q [] H
noncomputable def tCons (ta : TE) (tr : TA) : TA := fun σ H Q => ta σ H fun x H1 => tr σ H1 fun xs H2 => Q (x :: xs) H2
section
variable {X : Cx} {e : Expr} {es : List Expr} {te : TE} {t : TA} {pos : Pos}
theorem pa_nil : PA X [] tNil := fun _ _ _ _ H Q I h => Calls.spliced_nil ⟨[], H, I, .nil, h⟩
theorem pa_cons (ha : PE X e te) (hr : PA X es t) (hs : starEach (e :: es) X.env = (false, eval e X.env) :: starEach es X.env := by rfl) : PA X (e :: es) (tCons te t) := by
  intro pos pins s σ H Q I h
  rw [hs]
  show wpAny _ _ (spliced ((false, eval e X.env) :: backTo pos (starEach es X.env))) _ _ s
  refine Calls.spliced_cons (thn (ha pins s σ H _ I h) fun u s1 ⟨x, H1, I1, r1, q1⟩ => ?_)
  exact thn (hr pos pins s1 σ H1 _ I1 q1) fun us s2 ⟨xs, H2, I2, r2, q2⟩ => ⟨x :: xs, H2, I2, .cons r1 r2, q2⟩
noncomputable def tTup (t : TA) : TE := fun σ H Q => t σ H fun xs H1 => xs.length ≤ sizeLine ∧ ∀ p, H1 p = none → Q (.ref p) (upd H1 p (.tup xs))
noncomputable def tLst (t : TA) : TE := fun σ H Q => t σ H fun xs H1 => xs.length ≤ sizeLine ∧ ∀ p, H1 p = none → Q (.ref p) (upd H1 p (.lst xs))
theorem pe_tup {x1} (h : PA X es t) : PE X (.Tuple es x1 pos) (tTup t) := by
  intro pins s σ H Q I hq
  refine wpAny_Tuple_spliced (thn (h pos pins s σ H _ I hq) fun us s1 ⟨xs, H1, I1, r, z, q⟩ => ⟨by rw [← r.length]; exact z, ?_⟩)
  have hf : H1 s1.heap.objs.size = none := I1.hok.fresh (Nat.le_refl _)
  refine ⟨.ref s1.heap.objs.size, upd H1 s1.heap.objs.size (.tup xs), I1.laid (t' := s1.toks) (fun b u e => Heap.get?_push_of_some _ e) (Nat.le_refl _) ?_, rfl, q _ hf⟩
  exact ⟨z, us, r, ⟨_, Heap.get?_push_size _ rfl, rfl, _, rfl⟩⟩
theorem pe_lst (h : PA X es t) : PE X (.List es pos) (tLst t) := by
  intro pins s σ H Q I hq
  refine wpAny_List_spliced (thn (h pos pins s σ H _ I hq) fun us s1 ⟨xs, H1, I1, r, z, q⟩ => ⟨by rw [← r.length]; exact z, ?_⟩)
  have hf : H1 s1.heap.objs.size = none := I1.hok.fresh (Nat.le_refl _)
  refine ⟨.ref s1.heap.objs.size, upd H1 s1.heap.objs.size (.lst xs), I1.laid (t' := s1.toks) (fun b u e => Heap.get?_push_of_some _ e) (Nat.le_refl _) ?_, rfl, q _ hf⟩
  exact ⟨z, us, 0, r, Heap.get?_push_size _ rfl⟩
end
noncomputable abbrev Sp := List V → Hp → VK → XK → Prop
noncomputable abbrev CXT := List Env → Hp → Shared → XK → Value → Shared → Prop
structure Env0 (P : Program) (w : World) (K : PySem.W.Frag) (mg : Str → Option Value) (base : Heap) (A : Around) (outer : List Env) (s : Shared) (H : Hp) : Prop where
  frames : A.frames = some outer
  mod : Mod K mg base
  bs : ∀ b o, base.get? b = some o → s.heap.get? b = some o ∧ H b = none
  bsz : base.objs.size ≤ s.heap.objs.size
  funs : s.heap.FunFrames base outer
  frf : ∀ b ∈ frs outer, H b = none
  hok : HOk P w H s.heap
  bare : AllBare s.gens
noncomputable def CE (outer : List Env) (P : Program) (w : World) (H : Hp) (s : Shared) (Q : VK) (u : Value) (s' : Shared) : Prop :=
  ∃ v H', s'.os = s.os ∧ AllBare s'.gens ∧ Un (frs outer) [] H H' s.heap s'.heap ∧ HOk P w H' s'.heap ∧ RelV v u ∧ Q v H'
noncomputable def CR (CX : CXT) (outer : List Env) (P : Program) (w : World) (H : Hp) (s : Shared) (Q : VK) (E : XK) (r : Result) (s' : Shared) : Prop :=
  match r with
  | .ok (.ret u) => CE outer P w H s Q u s'
  | .ok _ => False
  | .error e => CX outer H s E e s'
structure FnOk (P : Program) (w : World) (K : PySem.W.Frag) (mg : Str → Option Value) (base : Heap) (CX : CXT) (k : Nat) (f : Addr) (fd : FuncData) (ps : List Str) (sp : Sp) : Prop where
  len : ∀ vs H Q E, sp vs H Q E → vs.length = ps.length
  run : ∀ (A : Around) (outer : List Env) (s : Shared) (H : Hp) (args : Args) (us : List Value) (vs : List V) (Q : VK) (E : XK), Room k A → Env0 P w K mg base A outer s H → BindsTo s fd args (ps.zip us) → Vals vs us → sp vs H Q E →
    codeAny (model P w) A (.call (.ref f) args) (CR CX outer P w H s Q E) s
section
variable {X : Cx} {pins : List (Addr × Obj)} {σ : St} {H : Hp} {s s' : Shared}
theorem Inv.env0 (I : Inv X pins σ H s) : Env0 X.prog X.w X.K X.mg X.base X.A X.stack s H :=
  ⟨I.ok.frames, I.ok.mod, I.bs, Nat.le_trans I.ok.bsz I.sz, I.stack, I.stkFree, I.hok, I.bare⟩
theorem Inv.after {Q : VK} {u : Value} (I : Inv X pins σ H s) (h : CE X.stack X.prog X.w H s Q u s') : EP X pins σ Q u s' := by
  obtain ⟨v, H', os, bare, un, hok, r, q⟩ := h
  obtain ⟨hh, g, d, t, os'⟩ := s'
  obtain rfl : os' = s.os := os
  exact ⟨v, H', I.call (h' := hh) (g' := g) (d' := d) (t' := t) (ch := []) un hok bare (fun b z => absurd z (by simp)), r, q⟩
end
noncomputable def tCall (sp : Sp) (dvs : List V) (E : XK) (t : TA) : TE := fun σ H Q => t σ H fun vs H1 => sp (vs ++ dvs) H1 Q E
noncomputable def Binds (K : PySem.W.Frag) (fd : FuncData) (ps : List Str) (ds : List Value) : Prop :=
  ∀ (s : Shared) (us : List Value), K.In s.heap → (us ++ ds).length = ps.length → BindsTo s fd ⟨us, []⟩ (ps.zip (us ++ ds))
theorem Binds.all {K : PySem.W.Frag} {fd : FuncData} {ps : List Str} (h : ∀ us : List Value, us.length = ps.length → bindArgs fd ⟨us, []⟩ = pure (ps.zip us)) : Binds K fd ps [] := fun s us _ hl => by
  rw [List.append_nil] at hl ⊢
  exact .of_eq (h us hl)
noncomputable def Passes (CX : CXT) (X : Cx) (E : XK) : Prop := ∀ (pins : List (Addr × Obj)) (σ : St) (H : Hp) (s : Shared) (e : Value) (s' : Shared), Inv X pins σ H s → CX X.stack H s E e s' → X.xe e s'
section
variable {X : Cx} {CX : CXT} {k : Nat} {f C : Addr} {fd : FuncData} {ps : List Str} {sp : Sp} {dvs : List V} {ds : List Value} {E : XK} {x m : Str} {p pos apos : Pos} {e o : Expr} {es : List Expr} {ta : TE} {t : TA}
theorem run_fn {pins : List (Addr × Obj)} {σ : St} {H : Hp} {s : Shared} {Q : VK} {us : List Value} {vs : List V} (F : FnOk X.prog X.w X.K X.mg X.base CX k f fd ps sp) (hr : Room k X.A) (hb : Binds X.K fd ps ds) (hd : Vals dvs ds) (hx : Passes CX X E)
    (I : Inv X pins σ H s) (r : Vals vs us) (h : sp (vs ++ dvs) H Q E) : wpAny (model X.prog X.w) X.A (call (.ref f) us) (EP X pins σ Q) X.xe s := by
  have r2 : Vals (vs ++ dvs) (us ++ ds) := r.append hd
  have hl : (us ++ ds).length = ps.length := by rw [← r2.length]; exact F.len _ _ _ _ h
  refine wpAny_call (codeAny_mono (F.run X.A X.stack s H ⟨us, []⟩ (us ++ ds) (vs ++ dvs) Q E hr I.env0 (hb s us I.kIn hl) r2 h) fun r s' hq => ?_)
  cases r with
  | error e => exact hx pins σ H s e s' I hq
  | ok fl =>
    cases fl with
    | ret u => exact I.after hq
    | next => exact False.elim hq
    | brk => exact False.elim hq
    | cont => exact False.elim hq
theorem pe_call (F : FnOk X.prog X.w X.K X.mg X.base CX k f fd ps sp) (hr : Room k X.A) (hg : Gl X x) (hm : X.mg x = some (.ref f)) (hk : PySem.W.keepIn X.K (.ref f) = true) (hb : Binds X.K fd ps ds) (hd : Vals dvs ds) (hx : Passes CX X E)
    (ha : PA X (e :: es) t) (hdb : (x == ("__debug__" : Str)) = false := by decide) (he : starEach (e :: es) X.env = (false, eval e X.env) :: starEach es X.env := by rfl) (hpl : (backTo pos (starEach es X.env)).any (·.1) = false := by rfl) :
    PE X (.Call (.Name x p) (e :: es) [] pos) (tCall sp dvs E t) := by
  intro pins s σ H Q I h
  refine wpAny_Call_Name_kw (ld_glob I hg hm ?_ hdb)
  refine PySem.W.callWith_K (h₀ := X.base) I.ok.mod.kin hk (thn (ha pos pins s σ H _ I h) fun us s1 ⟨vs, H1, I1, r, q⟩ => ⟨I1.kIn, ?_⟩) he hpl
  exact run_fn F hr hb hd hx I1 r q
end
section
variable {X : Cx} {CX : CXT} {k : Nat} {f C : Addr} {fd : FuncData} {ps ks : List Str} {sp : Sp} {E : XK} {x m : Str} {p pos apos kpos : Pos} {e o : Expr} {es : List Expr} {kws : List Keyword} {te ta : TE} {t tk : TA} {nm : Option Str}
variable {g : List Value → List Value → List Value} {gV : List V → List V → List V}
end
structure FnScope (N P : List Str) (sc : Scope) : Prop where
  kind : sc.kind = .function
  co : sc.isCoroutine = false
  gen : sc.isGenerator = false
  nd : N.Nodup
  pre : N.take P.length = P
  par : ∀ x ∈ P, sc.names.lookup x = some .local ∨ sc.names.lookup x = some .cell
  nofree : ∀ y ∈ sc.names, y.2 ≠ .free
theorem bindL_out {kindOf : Str → Option NameKind} {x : Str} : ∀ {binds : List (Str × Value)} {m : Str → Option Value}, (∀ v, (x, v) ∉ binds) → bindL kindOf binds m x = m x
  | [], _, _ => rfl
  | (n, v) :: r, m, h => by
    unfold bindL
    rw [bindL_out fun w hw => h w (List.mem_cons_of_mem _ hw)]
    split
    · have : x ≠ n := by rintro rfl; exact h v List.mem_cons_self
      simp [this]
    · rfl
theorem bindC_out {kindOf : Str → Option NameKind} {x : Str} : ∀ {binds : List (Str × Value)} {m : Str → Option Value}, (∀ v, (x, v) ∉ binds) → bindC kindOf binds m x = m x
  | [], _, _ => rfl
  | (n, v) :: r, m, h => by
    unfold bindC
    rw [bindC_out fun w hw => h w (List.mem_cons_of_mem _ hw)]
    split
    · rfl
    · have : x ≠ n := by rintro rfl; exact h v List.mem_cons_self
      simp [this]
theorem bindL_get {kindOf : Str → Option NameKind} {x : Str} {v : Value} : ∀ {P : List Str} {vs : List Value} {i : Nat} {m : Str → Option Value}, P.Nodup → P[i]? = some x → vs[i]? = some v → kindOf x = some .local →
    bindL kindOf (P.zip vs) m x = some v
  | [], _, _, _, _, h, _, _ => by simp at h
  | _ :: _, [], _, _, _, _, h, _ => by simp at h
  | p :: P, w :: vs, 0, m, nd, h1, h2, hk => by
    simp at h1 h2; subst h1; subst h2
    show bindL kindOf ((p, w) :: P.zip vs) m p = _
    unfold bindL
    rw [bindL_out fun v hv => (List.nodup_cons.mp nd).1 (List.of_mem_zip hv).1, if_pos hk]
    simp
  | p :: P, w :: vs, i + 1, m, nd, h1, h2, hk => by
    show bindL kindOf ((p, w) :: P.zip vs) m x = _
    unfold bindL
    exact bindL_get (i := i) (List.nodup_cons.mp nd).2 (by simpa using h1) (by simpa using h2) hk
theorem bindC_get {kindOf : Str → Option NameKind} {x : Str} {v : Value} : ∀ {P : List Str} {vs : List Value} {i : Nat} {m : Str → Option Value}, P.Nodup → P[i]? = some x → vs[i]? = some v → kindOf x ≠ some .local →
    bindC kindOf (P.zip vs) m x = some v
  | [], _, _, _, _, h, _, _ => by simp at h
  | _ :: _, [], _, _, _, _, h, _ => by simp at h
  | p :: P, w :: vs, 0, m, nd, h1, h2, hk => by
    simp at h1 h2; subst h1; subst h2
    show bindC kindOf ((p, w) :: P.zip vs) m p = _
    unfold bindC
    rw [bindC_out fun v hv => (List.nodup_cons.mp nd).1 (List.of_mem_zip hv).1, if_neg hk]
    simp
  | p :: P, w :: vs, i + 1, m, nd, h1, h2, hk => by
    show bindC kindOf ((p, w) :: P.zip vs) m x = _
    unfold bindC
    exact bindC_get (i := i) (List.nodup_cons.mp nd).2 (by simpa using h1) (by simpa using h2) hk
noncomputable def start (N : List Str) (vs : List V) : St := vs.map some ++ List.replicate (N.length - vs.length) none
noncomputable def cxOf (CX : CXT) (P : Program) (w : World) (K : PySem.W.Frag) (mg : Str → Option Value) (base : Heap) (N : List Str) (qual : Str) (scope : Scope) (f : Addr) (cd : Value) (A : Around) (outer : List Env) (s : Shared) (H : Hp) (E : XK) : Cx where
  prog := P
  w := w
  K := K
  mg := mg
  base := base
  A := A.deeper (envOfC qual scope s.heap.objs.size f cd)
  N := N
  s₀ := s
  H₀ := H
  env := envOfC qual scope s.heap.objs.size f cd
  outer := outer
  stack := envOfC qual scope s.heap.objs.size f cd :: outer
  ex := []
  calm := true
  fn := fun _ => true
  pn := []
  xe := fun e s' => wpAny (model P w) (A.deeper (envOfC qual scope s.heap.objs.size f cd)) (leaving (envOfC qual scope s.heap.objs.size f cd) e) (fun _ s'' => CX outer H s E e s'') (fun e' s'' => CX outer H s E e' s'') s'
theorem cell_has {sc : Scope} {n : Nat} {x : Str} (h : sc.names.lookup x = some .cell) : ∃ c, (cellsFrom n sc.names []).lookup x = some c := by
  have q := PySem.W.cellsFrom_some sc.names n [] (.inl h)
  exact Option.isSome_iff_exists.mp q
theorem inv_start {CX : CXT} {P : Program} {w : World} {K : PySem.W.Frag} {mg : Str → Option Value} {base : Heap} {N ps : List Str} {qual : Str} {scope : Scope} {f : Addr} {cd : Value} {A : Around} {outer : List Env} {s s1 : Shared} {H : Hp} {E : XK} {us : List Value} {vs : List V}
    (S : FnScope N ps scope) (hd : A.handled = none) (e0 : Env0 P w K mg base A outer s H) (hl : vs.length = ps.length) (r : Vals vs us)
    (x : InCallC s s.heap.objs.size (bindL (envOfC qual scope s.heap.objs.size f cd).kindOf (ps.zip us) fun _ => none) (cellsFrom (s.heap.objs.size + 1) scope.names []) (bindC (envOfC qual scope s.heap.objs.size f cd).kindOf (ps.zip us) fun _ => none) s1) :
    Inv (cxOf CX P w K mg base N qual scope f cd A outer s H E) [] (start N vs) H s1 := by
  have hpl : ps.length ≤ N.length := by have := congrArg List.length S.pre; rw [List.length_take] at this; omega
  obtain ⟨h1, tk, rfl, hk⟩ := x.done
  have noA : ∀ b : Addr, b ∉ (cxOf CX P w K mg base N qual scope f cd A outer s H E).ex := fun b z => absurd (show b ∈ ([] : List Addr) from z) (by simp)
  refine ⟨⟨e0.mod, S.kind, rfl, rfl, Nat.le_refl _, fun y z c h1 h2 => ?_, fun y hy => ?_, fun y c _ h => ?_, fun _ => hd, Around.frames_deeper e0.frames, .inr ⟨rfl, rfl⟩, fun b z => absurd z (noA b), e0.bs, e0.bsz, fun b _ _ => noA b, fun b z => absurd z (noA b), e0.funs, e0.frf⟩,
    rfl, e0.bare, Un.kept hk, ⟨_, x.toInCall.ns, fun i y v h1 h2 h3 => ?_⟩, fun y c h => ⟨_, x.cell y c h⟩, e0.hok.fresh (Nat.le_refl _), fun y c h => ?_, fun p hp => absurd (show p ∈ ([] : List (Addr × Obj)) from hp) (by simp), e0.hok.kept hk, ?_⟩
  · exact name_of_addr x.apart (PySem.mem_of_lookup h1) (PySem.mem_of_lookup h2)
  · have hy : scope.names.lookup y = some .cell ∨ scope.names.lookup y = some .free := hy
    rcases hy with hy | hy
    · exact cell_has hy
    · exact absurd rfl (S.nofree _ (PySem.mem_of_lookup hy))
  · exact Nat.le_of_lt (x.above y c (PySem.mem_of_lookup h))
  · have hi : i < vs.length := by
      unfold start at h2
      by_cases hi : i < vs.length
      · exact hi
      · rw [List.getElem?_append_right (by simpa using hi)] at h2
        rw [List.getElem?_replicate] at h2
        split at h2 <;> cases h2
    have ha : vs[i]? = some v := by
      unfold start at h2
      rw [List.getElem?_append_left (by simpa using hi), List.getElem?_map] at h2
      cases e : vs[i]? with
      | none => rw [e] at h2; cases h2
      | some a => rw [e] at h2; cases h2; rfl
    obtain ⟨u, hu, rv⟩ := r.get ha
    have hp : ps[i]? = some y := by
      rw [← S.pre, List.getElem?_take_of_lt (by omega)]; exact h1
    have ndP : ps.Nodup := by rw [← S.pre]; exact S.nd.sublist (List.take_sublist _ _)
    refine ⟨u, rv, ?_⟩
    rcases S.par y (List.mem_of_getElem? hp) with k | k
    · exact .inl ⟨k, bindL_get ndP hp hu k⟩
    · obtain ⟨c, e⟩ := cell_has (n := s.heap.objs.size + 1) k
      refine .inr ⟨.inl k, c, e, ?_⟩
      have q := x.cell y c e
      rw [bindC_get ndP hp hu (by show scope.names.lookup y ≠ _; rw [k]; decide)] at q
      exact q
  · exact e0.hok.fresh (Nat.le_of_lt (x.above y c (PySem.mem_of_lookup h)))
  · unfold start
    show _ = N.length
    rw [List.length_append, List.length_map, List.length_replicate]
    omega
theorem fn_of {CX : CXT} {P : Program} {w : World} {K : PySem.W.Frag} {mg : Str → Option Value} {base : Heap} {k : Nat} {f : Addr} {name qual : Str} {params : Arguments} {body : List Stmt} {scope : Scope} {dV kV doc pm cdv ct oc : Value} {an od : Option Addr}
    {osl : Array (Option Value)} {N ps : List Str} {sp : Sp} (lk : K.lookup f = some ⟨oc, od, .func (PySem.W.fnOf name qual params body scope dV kV doc pm an cdv ct), osl⟩) (hcd : PySem.W.codeIn K cdv qual = true) (S : FnScope N ps scope)
    (len : ∀ vs H Q E, sp vs H Q E → vs.length = ps.length)
    (hbody : ∀ (A : Around) (outer : List Env) (s : Shared) (H : Hp) (vs : List V) (Q : VK) (E : XK), Room k (A.deeper (envOfC qual scope s.heap.objs.size f cdv)) → sp vs H Q E →
      ∃ t, PSs (cxOf CX P w K mg base N qual scope f cdv A outer s H E) body t ∧ t { nx := fun _ H' => Q .non H', rt := Q } (start N vs) H) :
    FnOk P w K mg base CX (k + 1) f (PySem.W.fnOf name qual params body scope dV kV doc pm an cdv ct) ps sp := by
  refine ⟨len, fun A outer s H args us vs Q E hr e0 hb r hsp => ?_⟩
  have hl := len _ _ _ _ hsp
  have KX : K.In s.heap := e0.mod.kin.keeps fun b o e => (e0.bs b o e).1
  have lim : s.heap.NoLimit := e0.mod.nolimit.keeps fun b o e => (e0.bs b o e).1
  have hkind : ∀ y ∈ ps.zip us, scope.names.lookup y.1 = some .local ∨ (scope.names.lookup y.1 = some .cell ∧ ((cellsFrom (s.heap.objs.size + 1) scope.names []).lookup y.1).isSome = true) := fun ⟨n, v⟩ hy => by
    rcases S.par n (List.of_mem_zip hy).1 with q | q
    · exact .inl q
    · exact .inr ⟨q, PySem.W.cellsFrom_some _ _ _ (.inl q)⟩
  refine codeAny_call_function hr.depth (KX _ _ lk) rfl S.co S.gen rfl (PySem.W.codeRec_of KX hcd) (hb _ _ _ _ ?_)
  refine wpAny_newFunctionEnv_cells S.kind hkind fun env he s1 x => ?_
  subst he
  refine ⟨lim.keeps x.toInCall.keep, codeAny_func ?_⟩
  obtain ⟨t, ht, hq⟩ := hbody A outer s H vs Q E (hr.deeper _) hsp
  have I : Inv (cxOf CX P w K mg base N qual scope f cdv A outer s H E) [] (start N vs) H s1 := inv_start S hr.hd e0 hl r x
  refine wpAny_mono (ht [] s1 (start N vs) H _ I hq) (fun fl s' hs => ?_) fun e s' hs => hs
  have fin : ∀ {σ' : St} {H' : Hp} {v : V} {u : Value}, Inv (cxOf CX P w K mg base N qual scope f cdv A outer s H E) [] σ' H' s' → RelV v u → Q v H' → CE outer P w H s Q u s' :=
    fun {σ' H' v u} J rv q => ⟨v, H', J.os, J.bare, J.base, J.hok, rv, q⟩
  cases fl with
  | ret u =>
    obtain ⟨v, σ', H', J, rv, q⟩ := hs
    exact fin J rv q
  | next =>
    obtain ⟨σ', H', J, q⟩ := hs
    exact fin (v := V.non) (u := Value.none) J rfl q
  | brk =>
    obtain ⟨_, _, _, q⟩ := hs
    exact False.elim q
  | cont =>
    obtain ⟨_, _, _, q⟩ := hs
    exact False.elim q
end L2
namespace L2
open PySem PySem.Spec PyProof.Rows
section
variable {X : Cx} {x : Str} {p pos : Pos} {e : Expr} {es : List Expr} {t : TA} {id T : String} {r : List V → Hp → VK → Prop}
noncomputable def tCB (r : List V → Hp → VK → Prop) (t : TA) : TE := fun σ H Q => t σ H fun vs H1 => r vs H1 Q
theorem pe_callB (hc : CallR X (.builtin id) r) (hg : Gl X x) (hm : X.mg x = none) (hv : bootBuiltins x = some (.builtin id)) (ha : PA X (e :: es) t) (hn : x ≠ "__name__" := by decide) (hdb : (x == ("__debug__" : Str)) = false := by decide)
    (he : starEach (e :: es) X.env = (false, eval e X.env) :: starEach es X.env := by rfl) (hpl : (backTo pos (starEach es X.env)).any (·.1) = false := by rfl) : PE X (.Call (.Name x p) (e :: es) [] pos) (tCB r t) := by
  intro pins s σ H Q I h
  refine wpAny_Call_Name_kw (ld_blt I hg hm hv ?_ hn hdb)
  exact PyProof.Rows.callWith_builtin1 (thn (ha pos pins s σ H _ I h) fun us s1 ⟨vs, H1, I1, r1, q1⟩ => hc pins s1 σ H1 vs us Q I1 r1 q1) he hpl
theorem pe_callTy (hc : CallR X (.type T) r) (hg : Gl X x) (hm : X.mg x = none) (hv : bootBuiltins x = some (.type T)) (ha : PA X (e :: es) t) (hn : x ≠ "__name__" := by decide) (hdb : (x == ("__debug__" : Str)) = false := by decide)
    (he : starEach (e :: es) X.env = (false, eval e X.env) :: starEach es X.env := by rfl) (hpl : (backTo pos (starEach es X.env)).any (·.1) = false := by rfl) : PE X (.Call (.Name x p) (e :: es) [] pos) (tCB r t) := by
  intro pins s σ H Q I h
  refine wpAny_Call_Name_kw (ld_blt I hg hm hv ?_ hn hdb)
  exact PyProof.Rows.callWith_type1 (thn (ha pos pins s σ H _ I h) fun us s1 ⟨vs, H1, I1, r1, q1⟩ => hc pins s1 σ H1 vs us Q I1 r1 q1) he hpl
end
end L2
namespace HT
open PySem PyProof.Rows
noncomputable def lexLt : List Int → List Int → Bool
  | [], [] => false
  | [], _ :: _ => true
  | _ :: _, [] => false
  | x :: xs, y :: ys => if x = y then lexLt xs ys else decide (x < y)
theorem lexLt_cons (x y : Int) (xs ys : List Int) : lexLt (x :: xs) (y :: ys) = if x = y then lexLt xs ys else decide (x < y) := rfl
theorem lexLt_nil_nil : lexLt [] [] = false := rfl
theorem lexLt_nil_cons (y : Int) (ys : List Int) : lexLt [] (y :: ys) = true := rfl
theorem lexLt_cons_nil (x : Int) (xs : List Int) : lexLt (x :: xs) [] = false := rfl
theorem eqAt_int (A : Around) (s : Shared) (a : Int) (t : Tok) (c : Int) (u : Tok) : ∃ e, SeqAt.EqAt A s (.int a t) (.int c u) e ∧ (e = true ↔ a = c) :=
  ⟨(a == c), SeqAt.EqAt.int_int a t c u, by simp⟩
theorem rcLt_int (A : Around) (s : Shared) (a : Int) (t : Tok) (c : Int) (u : Tok) (prog : Program) (w : World) (E : Value → Shared → Prop) (Q : Value → Shared → Prop) (h : Q (.bool (decide (a < c))) s) :
    wpAny (model prog w) A (richCompare .Lt (.int a t) (.int c u)) Q E s :=
  (PyProof.Rows.lt_int h : wpAny (model prog w) A (compareOp .Lt (.int a t) (.int c u)) Q E s)
section
open PySem.SeqAt
open PySem.AutoSeq1 (wpAny_loadPart')
open PySem.MeetsSeq PySem.MeetsSeq2 PySem.MeetsSeq3
theorem tuple_lt_ints (l b : Addr) (items items2 : Array Value) (n n2 : Nat) (dd dd2 : Option Addr) (sl sl2 : Array (Option Value)) (ns ms : List Int) (hi : IntsAre items.toList ns) (hj : IntsAre items2.toList ms) :
    Meets (Builtin.«tuple.__lt__» ⟨[.ref l, .ref b], []⟩)
      (fun _ R s => s.heap.get? l = some { cls := .type "tuple", dict := dd, data := .seq items n, slots := sl } ∧ s.heap.get? b = some { cls := .type "tuple", dict := dd2, data := .seq items2 n2, slots := sl2 } ∧
        R (.ok (.ret (.bool (lexLt ns ms)))) s) :=
  .of_wp fun prog w A R s h => by
    obtain ⟨hp, g, d, tk, os⟩ := s; obtain ⟨hl, hb, h⟩ := h
    have f2 := AutoSeq1.sub_tuple_tuple
    have z1 : items.size = ns.length := by rw [← hi.length]; simp
    have z2 : items2.size = ms.length := by rw [← hj.length]; simp
    wp_walk using wpAny_loadPart' hl, wpAny_loadPart' hb, wpAny_forIn_list _ (fun rest b s' => b.1 = none ∧ s' = ⟨hp, g, d, tk, os⟩ ∧ ∃ (vs ws : List Value) (ns' ms' : List Int), rest = vs.zip ws ∧
      IntsAre vs ns' ∧ IntsAre ws ms' ∧ ns'.length + items2.size = ms'.length + items.size ∧ R (.ok (.ret (.bool (lexLt ns' ms')))) ⟨hp, g, d, tk, os⟩) _
    case turn =>
      rintro ⟨y, x⟩ rest b s' ⟨hb', rfl, vs, ws, ns', ms', hz, hvi, hwi, hlen, hR⟩
      cases hvi with
      | nil => rw [List.zip_nil_left] at hz; cases hz
      | cons a t hvi' =>
        cases hwi with
        | nil => rw [List.zip_nil_right] at hz; cases hz
        | cons c u hwi' =>
          rw [List.zip_cons_cons] at hz
          injection hz with hyx hrest
          injection hyx with hy hx
          subst hy hx
          rw [lexLt_cons] at hR
          simp only [List.length_cons] at hlen
          obtain ⟨e, he, hiff⟩ := eqAt_int A.in1 ⟨hp, g, d, tk, os⟩ a t c u
          refine wpAny_bind (he prog w _ _ ?_)
          cases e with
          | true =>
            rw [if_pos (hiff.mp rfl)] at hR
            wp_walk
            exact ⟨rfl, rfl, _, _, _, _, hrest, hvi', hwi', by omega, hR⟩
          | false =>
            rw [if_neg (fun q => absurd (hiff.mpr q) Bool.false_ne_true)] at hR
            have hri := rcLt_int A.in1 ⟨hp, g, d, tk, os⟩ a t c u prog w
            wp_walk using hri
            exact ⟨_, rfl, by simpa using hR⟩
    case fin =>
      rintro ⟨b1, b2⟩ s' ⟨hb', rfl, vs, ws, ns', ms', hz, hvi, hwi, hlen, hR⟩
      simp only at hb'
      subst hb'
      have hv : lexLt ns' ms' = decide (items.size < items2.size) := by
        cases hvi with
        | nil =>
          cases hwi with
          | nil =>
            simp only [List.length_nil] at hlen
            rw [lexLt_nil_nil]
            exact (decide_eq_false (by omega)).symm
          | cons c u hw =>
            simp only [List.length_nil, List.length_cons] at hlen
            rw [lexLt_nil_cons]
            exact (decide_eq_true (by omega)).symm
        | cons a t hv =>
          cases hwi with
          | nil =>
            simp only [List.length_nil, List.length_cons] at hlen
            rw [lexLt_cons_nil]
            exact (decide_eq_false (by omega)).symm
          | cons c u hw =>
            rw [List.zip_cons_cons] at hz
            cases hz
      rw [hv] at hR
      wp_walk
      exact ⟨_, rfl, by simpa [Builtin.Tuple.tupleCompareSizes] using hR⟩
    case h =>
      exact ⟨rfl, rfl, items.toList, items2.toList, ns, ms, rfl, hi, hj, by omega, h⟩
end
section
variable {prog : Program} {w : World} {A : Around} {E : Value → Shared → Prop} {s : Shared}
theorem lt_tupInts {l b : Addr} {items items2 : Array Value} {ns ms : List Int} {Q : Value → Shared → Prop} (hl : IsTup s.heap l items) (hb : IsTup s.heap b items2) (hi : IntsAre items.toList ns) (hj : IntsAre items2.toList ms)
    (hu : A.units < cLine) (h : Q (.bool (lexLt ns ms)) s) : wpAny (model prog w) A (compareOp .Lt (.ref l) (.ref b)) Q E s := by
  obtain ⟨⟨cls, dd, data, sl⟩, ho, hc, n, hd⟩ := id hl
  obtain ⟨⟨cls2, dd2, data2, sl2⟩, ho2, hc2, n2, hd2⟩ := id hb
  simp only at hc hd hc2 hd2
  subst hc hd hc2 hd2
  exact richCompare_meets_room (op := .Lt) ⟨_, ho, rfl⟩ ⟨_, ho2, rfl⟩ PySem.F.slot_tuple_lt PySem.F.entry_tuple_lt (PySem.F.args_tuple_lt_2 _ _) (tuple_lt_ints l b items items2 n n2 dd dd2 sl sl2 ns ms hi hj)
    ⟨ho, ho2, show Value.bool (lexLt ns ms) ≠ Value.notImplemented ∧ Q (.bool (lexLt ns ms)) s from ⟨(fun x => nomatch x), h⟩⟩ hu
theorem cat_tup {t b : Addr} {vs ws : List Value} {Q : Value → Shared → Prop} (ht : IsTup s.heap t vs.toArray) (hb : IsTup s.heap b ws.toArray) (hv : vs ≠ [])
    (h1 : ws = [] → Q (.ref t) s) (h2 : ws ≠ [] → Q (.ref s.heap.objs.size) { s with heap := s.heap.push { cls := .type "tuple", data := .seq (vs ++ ws).toArray } })
    (hsz : vs.length + ws.length ≤ sizeLine) : wpAny (model prog w) A (binaryOp .Add (.ref t) (.ref b)) Q E s := by
  obtain ⟨⟨cls, dd, data, sl⟩, ho, hc, n, hd⟩ := id ht
  obtain ⟨⟨cls2, dd2, data2, sl2⟩, ho2, hc2, n2, hd2⟩ := id hb
  simp only at hc hd hc2 hd2
  subst hc hd hc2 hd2
  have e : vs.toArray ++ ws.toArray = (vs ++ ws).toArray := by simp
  by_cases hw : ws = []
  · exact concat_meets ⟨_, ho, rfl⟩ ⟨_, ho2, rfl⟩ noFill_tuple_add seq_tuple_add PySem.F.slot_tuple_add PySem.F.entry_tuple_add (PySem.F.args_tuple_add_2 _ _)
      (tuple_addW1 t b vs.toArray ws.toArray n n2 dd dd2 sl sl2 (by simpa using hv) (by simp [hw])) ⟨ho, ho2, h1 hw⟩
  · refine concat_meets ⟨_, ho, rfl⟩ ⟨_, ho2, rfl⟩ noFill_tuple_add seq_tuple_add PySem.F.slot_tuple_add PySem.F.entry_tuple_add (PySem.F.args_tuple_add_2 _ _)
      (tuple_addW2 t b vs.toArray ws.toArray n n2 dd dd2 sl sl2 (by simpa using hv) (by simpa using hw) (by rw [List.size_toArray, List.size_toArray]; exact hsz)) ⟨ho, ho2, ?_⟩
    rw [e]
    exact h2 hw
noncomputable def sIx (n d : Nat) : Option Int → Nat
  | none => d
  | some v => if v < 0 then (v + (n : Int)).toNat else min v.toNat n
theorem sIx_none (n d : Nat) : sIx n d none = d := rfl
theorem sIx_nat (n d k : Nat) : sIx n d (some (k : Int)) = min k n := by
  show (if (k : Int) < 0 then ((k : Int) + (n : Int)).toNat else min (k : Int).toNat n) = min k n
  rw [if_neg (by omega), Int.toNat_natCast]
end
end HT
namespace L2
open PySem PySem.Spec PyProof.Rows
noncomputable abbrev TO := St → Hp → (Option Int → Hp → Prop) → Prop
noncomputable def PO (X : Cx) (e : Option Expr) (t : TO) : Prop :=
  ∀ (pins : List (Addr × Obj)) (s : Shared) (σ : St) (H : Hp) (Q : Option Int → Hp → Prop), Inv X pins σ H s → t σ H Q →
    wpAny (model X.prog X.w) X.A (evalPart e X.env) (fun u s' => ∃ o H', Inv X pins σ H' s' ∧ IsPart u o ∧ Q o H') X.xe s
noncomputable def tNoPart : TO := fun _ H Q => Q none H
noncomputable def tPart (t : TE) : TO := fun σ H Q => t σ H fun x H1 => ∃ i, x = .int i ∧ Q (some i) H1
theorem intsAre_of {ns : List Int} : ∀ {us : List Value}, Vals (ns.map V.int) us → IntsAre us ns := by
  induction ns with
  | nil => intro us r; rw [List.map_nil] at r; cases r; exact .nil
  | cons n ns ih =>
    intro us r
    rw [List.map_cons] at r
    cases r with
    | cons r1 r2 =>
      obtain ⟨t, e⟩ := r1
      subst e
      exact .cons n t (ih r2)
section
variable {X : Cx} {e : Expr} {te : TE} {lo hi : Option Expr} {tl th : TO} {pos p2 : Pos}
theorem po_none : PO X none tNoPart := by
  intro pins s σ H Q I h
  rw [evalPart_none]
  exact wpAny_pure ⟨none, H, I, .none, h⟩
theorem po_some (h : PE X e te) : PO X (some e) (tPart te) := by
  intro pins s σ H Q I hw
  rw [evalPart_some]
  refine thn (h pins s σ H _ I hw) fun u s1 ⟨x, H1, I1, r1, q1⟩ => ?_
  obtain ⟨i, rfl, q⟩ := q1
  obtain ⟨t, rfl⟩ := r1
  exact ⟨some i, H1, I1, .int i t, q⟩
noncomputable def SlR (X : Cx) (r : V → Option Int → Option Int → Hp → VK → Prop) : Prop :=
  ∀ (pins : List (Addr × Obj)) (s : Shared) (σ : St) (H : Hp) (x : V) (v vl vu : Value) (lo hi : Option Int) (sl : Addr) (Q : VK), Inv X pins σ H s → RelV x v → s.heap.IsSliceOf sl vl vu .none → IsPart vl lo → IsPart vu hi → r x lo hi H Q →
    ∃ T id, typeLookup (.type T) "__getitem__" = pure (some (.builtin id)) ∧ s.TypeIs v T ∧ wpAny (model X.prog X.w) X.A (getItem v (.ref sl)) (EP X pins σ Q) X.xe s
noncomputable def tSl (r : V → Option Int → Option Int → Hp → VK → Prop) (te : TE) (tl th : TO) : TE := fun σ H Q => te σ H fun x H1 => tl σ H1 fun l H2 => th σ H2 fun u H3 => r x l u H3 Q
theorem pe_slice {r : V → Option Int → Option Int → Hp → VK → Prop} (hr : SlR X r) (he : PE X e te) (hl : PO X lo tl) (hu : PO X hi th) : PE X (.Subscript e (.Slice lo hi none p2) pos) (tSl r te tl th) := by
  intro pins s σ H Q I h
  refine Subscript_ (thn (he pins s σ H _ I h) fun v s1 ⟨x, H1, I1, r1, q1⟩ => ?_)
  refine wpAny_Slice (thn (hl pins s1 σ H1 _ I1 q1) fun vl s2 ⟨l, H2, I2, pl, q2⟩ => thn (hu pins s2 σ H2 _ I2 q2) fun vu s3 ⟨u, H3, I3, pu, q3⟩ => ?_)
  rw [evalPart_none]
  refine wpAny_pure ?_
  have I4 : Inv X pins σ H3 { s3 with heap := s3.heap.push { cls := .type "slice", data := .fields #[vl, vu, .none] } } := I3.kept (t' := s3.toks) fun b ob q => Heap.get?_push_of_some _ q
  obtain ⟨T, id, hT, ht, hg⟩ := hr pins { s3 with heap := s3.heap.push { cls := .type "slice", data := .fields #[vl, vu, .none] } } σ H3 x v vl vu l u s3.heap.objs.size Q I4 r1 (Heap.IsSliceOf.new ..) pl pu q3
  show wpAny (model X.prog X.w) X.A (subscriptTail e (.Slice lo hi none p2) v (.ref s3.heap.objs.size)) (EP X pins σ Q) X.xe { s3 with heap := s3.heap.push { cls := .type "slice", data := .fields #[vl, vu, .none] } }
  exact tail_any (ops := [.ref s3.heap.objs.size, v]) ht hT hg (by with_unfolding_all rfl)
noncomputable def cutV (xs : List V) (lo hi : Option Int) : List V := (xs.drop (HT.sIx xs.length 0 lo)).take (HT.sIx xs.length xs.length hi - HT.sIx xs.length 0 lo)
theorem cutV_length (xs : List V) (lo hi : Option Int) : (cutV xs lo hi).length ≤ xs.length := by
  unfold cutV
  rw [List.length_take, List.length_drop]
  omega
noncomputable def rCatT (K : PySem.W.Frag) : R2 := fun x y H Q => ∃ a b xs ys, x = .ref a ∧ y = .ref b ∧ SqT K H a xs ∧ SqT K H b ys ∧ xs ≠ [] ∧ xs.length + ys.length ≤ sizeLine ∧
  (ys = [] → Q (.ref a) H) ∧ (ys ≠ [] → ∀ p, H p = none → Q (.ref p) (upd H p (.tup (xs ++ ys))))
theorem Vals.nil_iff {xs : List V} {us : List Value} (r : Vals xs us) : us = [] ↔ xs = [] := by
  cases r with
  | nil => simp
  | cons _ _ => simp
theorem op_catT : OpR X (binaryOp .Add) (rCatT X.K) := by
  intro pins s σ H x y v u Q I rx ry h
  obtain ⟨a, b, xs, ys, rfl, rfl, ha, hb, hx, hz, q1, q2⟩ := h
  cases rx
  cases ry
  obtain ⟨its, r1, p1, _⟩ := I.tuple ha
  obtain ⟨its2, r2, p2, _⟩ := I.tuple hb
  refine HT.cat_tup p1 p2 (fun z => hx (r1.nil_iff.mp z)) (fun z => ⟨.ref a, H, I, rfl, q1 (r2.nil_iff.mp z)⟩) (fun z => ?_) (by rw [← r1.length, ← r2.length]; exact hz)
  refine ⟨.ref s.heap.objs.size, _, I.laid (t' := s.toks) (o := .tup (xs ++ ys)) (fun b ob q => Heap.get?_push_of_some _ q) (Nat.le_refl _) ?_, rfl, q2 (fun w => z (r2.nil_iff.mpr w)) _ (I.hok.fresh (Nat.le_refl _))⟩
  exact ⟨by rw [List.length_append]; exact hz, _, r1.append r2, IsTup.new _ _⟩
end
end L2
namespace L2
open PySem PySem.Spec PyProof.Rows
noncomputable def ixN (n : Nat) (i : Int) : Option Nat := if 0 ≤ i then (if i < n then some i.toNat else none) else if -(n : Int) ≤ i then some (i + n).toNat else none
noncomputable def atI {α : Type} (xs : List α) (i : Int) : Option α := (ixN xs.length i).bind fun j => xs[j]?
theorem ixN_seq {n : Nat} {i : Int} {j : Nat} (h : ixN n i = some j) : seqIndex? i n = some j ∧ j < n ∧ -(n : Int) ≤ i ∧ i < n := by
  unfold ixN at h
  by_cases h0 : 0 ≤ i
  · rw [if_pos h0] at h
    by_cases h1 : i < n
    · rw [if_pos h1] at h
      have e : i.toNat = j := Option.some.inj h
      exact ⟨by rw [seqIndex_of h0 h1, e], by omega, by omega, h1⟩
    · rw [if_neg h1] at h; cases h
  · rw [if_neg h0] at h
    by_cases h1 : -(n : Int) ≤ i
    · rw [if_pos h1] at h
      have e : (i + n).toNat = j := Option.some.inj h
      exact ⟨by rw [seqIndex_neg (by omega) h1, e], by omega, h1, by omega⟩
    · rw [if_neg h1] at h; cases h
theorem atI_get {α : Type} {xs : List α} {i : Int} {v : α} (h : atI xs i = some v) : ∃ j, seqIndex? i xs.length = some j ∧ xs[j]? = some v ∧ j < xs.length ∧ -(xs.length : Int) ≤ i ∧ i < xs.length := by
  unfold atI at h
  cases e : ixN xs.length i with
  | none => rw [e] at h; cases h
  | some j =>
    rw [e] at h
    obtain ⟨h1, h2, h3, h4⟩ := ixN_seq e
    exact ⟨j, h1, h, h2, h3, h4⟩
theorem atI_nat {α : Type} {xs : List α} {j : Nat} {v : α} (h : xs[j]? = some v) : atI xs (j : Int) = some v := by
  have hj : j < xs.length := (List.getElem?_eq_some_iff.mp h).1
  have e : ixN xs.length (j : Int) = some j := by
    unfold ixN
    rw [if_pos (by omega), if_pos (by omega)]; simp
  unfold atI; rw [e]; exact h
theorem atI_last {α : Type} (xs : List α) (v : α) : atI (xs ++ [v]) (-1) = some v := by
  have hl : (xs ++ [v]).length = xs.length + 1 := by simp
  have e : ixN (xs ++ [v]).length (-1) = some xs.length := by
    unfold ixN
    rw [hl, if_neg (by decide), if_pos (by omega)]
    congr 1
    omega
  unfold atI
  rw [e]
  show (xs ++ [v])[xs.length]? = some v
  simp
noncomputable def PlainIx (b : Expr) : Prop := ∀ o i, subscripted b false o i = operate [o, i] (getItem o i)
noncomputable def IxR (X : Cx) (r : R2) : Prop :=
  ∀ (value slice : Expr) (pins : List (Addr × Obj)) (s : Shared) (σ : St) (H : Hp) (x y : V) (v u : Value) (Q : VK), Inv X pins σ H s → RelV x v → RelV y u → r x y H Q →
    subscripted slice false v u = operate [v, u] (getItem v u) → wpAny (model X.prog X.w) X.A (subscriptTail value slice v u) (EP X pins σ Q) X.xe s
noncomputable def MtR (X : Cx) (id : String) (r : V → List V → Hp → VK → Prop) : Prop :=
  ∀ (pins : List (Addr × Obj)) (s : Shared) (σ : St) (H : Hp) (x : V) (xs : List V) (v : Value) (us : List Value) (Q : VK), Inv X pins σ H s → RelV x v → Vals xs us → r x xs H Q →
    wpAny (model X.prog X.w) X.A (call (.builtin id) (v :: us)) (EP X pins σ Q) X.xe s
section
variable {X : Cx} {a b : Expr} {ta tb : TE} {pos : Pos}
theorem pe_ix {r : R2} (hr : IxR X r) (ha : PE X a ta) (hb : PE X b tb) (hs : PlainIx b) : PE X (.Subscript a b pos) (tOp r ta tb) := by
  intro pins s σ H Q I h
  exact Subscript_ (binT ha hb I h fun v u s2 x y H2 I2 rx ry q => hr a b pins s2 σ H2 x y v u Q I2 rx ry q (hs _ _))
noncomputable def rIxL (K : PySem.W.Frag) : R2 := fun x y H Q => ∃ p xs i v, x = .ref p ∧ y = .int i ∧ SqL K H p xs ∧ atI xs i = some v ∧ Q v H
noncomputable def rIxT (K : PySem.W.Frag) : R2 := fun x y H Q => ∃ p xs i v, x = .ref p ∧ y = .int i ∧ SqT K H p xs ∧ atI xs i = some v ∧ Q v H
noncomputable def rIxS : R2 := fun x y H Q => ∃ z i c, x = .str z ∧ y = .int i ∧ z.length ≤ sizeLine ∧ atI z.cps.toList i = some c ∧ Q (.str ⟨#[c]⟩) H
theorem ix_list : IxR X (rIxL X.K) := by
  intro value slice pins s σ H x y v u Q I rx ry h hs
  obtain ⟨p, xs, i, z, rfl, rfl, hq, he, q⟩ := h
  cases rx
  obtain ⟨t, rfl⟩ := ry
  obtain ⟨its, r, pl, hz⟩ := I.list hq
  obtain ⟨j, h1, h2, h3, h4, h5⟩ := atI_get he
  obtain ⟨w, ew, rw'⟩ := r.get h2
  have hl := r.length
  have hn := line63
  have fin : EP X pins σ Q w s := ⟨z, H, I, rw', q⟩
  by_cases h0 : 0 ≤ i
  · have hj : i.toNat = j := by
      rw [seqIndex_of h0 h5] at h1
      exact Option.some.inj h1
    exact item_listR pl.isList h0 (by omega) (by rw [hj]; simpa using ew) fin hs
  · have hj : (i + (its.toArray.size : Int)).toNat = j := by
      rw [seqIndex_neg (by omega) h4] at h1
      rw [List.size_toArray, ← hl]
      exact Option.some.inj h1
    exact subscriptTail_builtinR (x := w) pl.isList.typeIs slot_list_getitem.lookup
      (wpAny_getItem_list_neg (Q := fun r s' => r = w ∧ EP X pins σ Q r s') pl.isList (by omega) (by rw [List.size_toArray] <;> omega) (by omega) (by rw [hj]; simpa using ew) ⟨rfl, fin⟩) hs
theorem ix_tup : IxR X (rIxT X.K) := by
  intro value slice pins s σ H x y v u Q I rx ry h hs
  obtain ⟨p, xs, i, z, rfl, rfl, hq, he, q⟩ := h
  cases rx
  obtain ⟨t, rfl⟩ := ry
  obtain ⟨its, r, pl, hz⟩ := I.tuple hq
  obtain ⟨j, h1, h2, h3, h4, h5⟩ := atI_get he
  obtain ⟨w, ew, rw'⟩ := r.get h2
  have hl := r.length
  have hn := line63
  have fin : EP X pins σ Q w s := ⟨z, H, I, rw', q⟩
  exact subscriptTail_builtinR (x := w) pl.typeIs slot_tuple_getitem.lookup
    (getItem_tuple (j := j) (Q := fun r s' => r = w ∧ EP X pins σ Q r s') pl (by omega) (by omega) (by rw [List.size_toArray, ← hl]; exact h1) (by simpa using ew) ⟨rfl, fin⟩) hs
theorem ix_str : IxR X rIxS := by
  intro value slice pins s σ H x y v u Q I rx ry h hs
  obtain ⟨z, i, c, rfl, rfl, hz, he, q⟩ := h
  obtain ⟨t, rfl⟩ := rx
  obtain ⟨t', rfl⟩ := ry
  obtain ⟨j, h1, h2, h3, h4, h5⟩ := atI_get he
  have hl : z.cps.toList.length = z.length := by simp [Str.length]
  rw [hl] at h1 h4 h5
  have hn := line63
  exact tail_any (typeIs_str s z t) slot_str_getitem.lookup (getItem_str (c := c) (by
    have e1 : decide (i < -(2 ^ 63 : Int)) = false := decide_eq_false (by omega)
    have e2 : decide (i ≥ 2 ^ 63) = false := decide_eq_false (by omega)
    rw [e1, e2, Bool.or_false]) (by rw [h1]; simpa using h2) ⟨.str ⟨#[c]⟩, H, I.tok _, ⟨_, rfl⟩, q⟩) hs
theorem slice_bounds (lo hi : Option Int) (n : Nat) : (sliceBounds lo hi none n).1 = ((HT.sIx n 0 lo : Nat) : Int) ∧ (sliceBounds lo hi none n).2.1 = ((HT.sIx n n hi : Nat) : Int) ∧ (sliceBounds lo hi none n).2.2 = 1 := by
  refine ⟨?_, ?_, rfl⟩
  · cases lo with
    | none => simp [sliceBounds, HT.sIx]
    | some i =>
      simp only [sliceBounds, HT.sIx, Option.getD_none, show (1 : Int) > 0 by decide, if_true]
      by_cases h : i < 0
      · simp only [h, if_true] <;> omega
      · simp only [h, if_false] <;> omega
  · cases hi with
    | none => simp [sliceBounds, HT.sIx]
    | some i =>
      simp only [sliceBounds, HT.sIx, Option.getD_none, show (1 : Int) > 0 by decide, if_true]
      by_cases h : i < 0
      · simp only [h, if_true] <;> omega
      · simp only [h, if_false] <;> omega
theorem slicePick_cut (its : List Value) (lo hi : Option Int) : slicePick its.toArray lo hi none = ((its.drop (HT.sIx its.length 0 lo)).take (HT.sIx its.length its.length hi - HT.sIx its.length 0 lo)).toArray := by
  obtain ⟨h1, h2, h3⟩ := slice_bounds lo hi its.toArray.size
  unfold slicePick
  rw [h1, h2, h3]
  simp only [sliceRange_one, pick_run, List.size_toArray] <;> rfl
noncomputable def rSlL (K : PySem.W.Frag) : V → Option Int → Option Int → Hp → VK → Prop := fun x lo hi H Q => ∃ a xs, x = .ref a ∧ SqL K H a xs ∧ ∀ p, H p = none → Q (.ref p) (upd H p (.lst (cutV xs lo hi)))
theorem sl_list : SlR X (rSlL X.K) := by
  intro pins s σ H x v vl vu lo hi sl Q I rx hs pl pu h
  obtain ⟨a, xs, rfl, hx, q⟩ := h
  cases rx
  obtain ⟨its, r, ht, hz⟩ := I.list hx
  have hlen := r.length
  refine ⟨"list", _, slot_list_getitem.lookup, ht.isList.typeIs, ?_⟩
  refine wpAny_getItem_list_slice ht.isList hs pl pu .none (by simp) ?_ (by rw [List.size_toArray] <;> omega)
  rw [slicePick_cut, ← hlen]
  refine ⟨.ref s.heap.objs.size, _, I.laid (t' := s.toks) (o := .lst (cutV xs lo hi)) (fun b ob q => Heap.get?_push_of_some _ q) (Nat.le_refl _) ?_, rfl, q _ (I.hok.fresh (Nat.le_refl _))⟩
  exact ⟨Nat.le_trans (cutV_length xs lo hi) hz, _, 0, (r.drop (HT.sIx xs.length 0 lo)).take (HT.sIx xs.length xs.length hi - HT.sIx xs.length 0 lo), Heap.get?_push_size _ rfl⟩
noncomputable def flatV : V → Bool
  | .non => true
  | .bl _ => true
  | .int _ => true
  | .str _ => true
  | _ => false
noncomputable def eqV : V → V → Bool
  | .non, .non => true
  | .bl a, .bl b => a == b
  | .bl a, .int b => (if a then 1 else 0) == b
  | .int a, .bl b => a == (if b then 1 else 0)
  | .int a, .int b => a == b
  | .str a, .str b => a == b
  | _, _ => false
theorem eqAt_V {A : Around} {s : Shared} {y x : V} {u v : Value} (ry : RelV y u) (rx : RelV x v) (fy : flatV y = true) (fx : flatV x = true) : SeqAt.EqAt A s u v (eqV y x) := by
  cases y with
  | non =>
    cases ry
    cases x with
    | non => cases rx; exact SeqAt.EqAt.same _
    | bl b => cases rx; exact SeqAt.EqAt.none_bool b
    | int b => obtain ⟨t, rfl⟩ := rx; exact SeqAt.EqAt.none_int b t
    | str b => obtain ⟨t, rfl⟩ := rx; exact SeqAt.EqAt.none_str b t
    | _ => exact absurd (show false = true from fx) Bool.false_ne_true
  | bl a =>
    cases ry
    cases x with
    | non => cases rx; exact SeqAt.EqAt.bool_none a
    | bl b => cases rx; exact SeqAt.EqAt.bool_bool a b
    | int b => obtain ⟨t, rfl⟩ := rx; exact SeqAt.EqAt.bool_int a b t
    | str b => obtain ⟨t, rfl⟩ := rx; exact SeqAt.EqAt.bool_str a b t
    | _ => exact absurd (show false = true from fx) Bool.false_ne_true
  | int a =>
    obtain ⟨t', rfl⟩ := ry
    cases x with
    | non => cases rx; exact SeqAt.EqAt.int_none a t'
    | bl b => cases rx; exact SeqAt.EqAt.int_bool a t' b
    | int b => obtain ⟨t, rfl⟩ := rx; exact SeqAt.EqAt.int_int a t' b t
    | str b => obtain ⟨t, rfl⟩ := rx; exact SeqAt.EqAt.int_str a t' b t
    | _ => exact absurd (show false = true from fx) Bool.false_ne_true
  | str a =>
    obtain ⟨t', rfl⟩ := ry
    cases x with
    | non => cases rx; exact SeqAt.EqAt.str_none a t'
    | bl b => cases rx; exact SeqAt.EqAt.str_bool a t' b
    | int b => obtain ⟨t, rfl⟩ := rx; exact SeqAt.EqAt.str_int a t' b t
    | str b => obtain ⟨t, rfl⟩ := rx; exact SeqAt.EqAt.str_str a t' b t
    | _ => exact absurd (show false = true from fx) Bool.false_ne_true
  | _ => exact absurd (show false = true from fy) Bool.false_ne_true
noncomputable def eqU (x : V) (u : Value) : Bool := match u with
  | .none => eqV .non x
  | .bool b => eqV (.bl b) x
  | .int i _ => eqV (.int i) x
  | .str z _ => eqV (.str z) x
  | _ => false
theorem eqU_of {x y : V} {u : Value} (r : RelV y u) (f : flatV y = true) : eqU x u = eqV y x := by
  cases y with
  | non => cases r; rfl
  | bl b => cases r; rfl
  | int i => obtain ⟨t, rfl⟩ := r; rfl
  | str z => obtain ⟨t, rfl⟩ := r; rfl
  | _ => exact absurd (show false = true from f) Bool.false_ne_true
theorem any_eqU {x : V} : ∀ {xs : List V} {us : List Value}, Vals xs us → xs.all flatV = true → us.any (eqU x) = xs.any fun y => eqV y x
  | _, _, .nil, _ => rfl
  | y :: xs, u :: us, .cons r t, f => by
    rw [List.all_cons, Bool.and_eq_true] at f
    rw [List.any_cons, List.any_cons, eqU_of r f.1, any_eqU t f.2]
theorem mem_eqAt {A : Around} {s : Shared} {x : V} {v : Value} (rx : RelV x v) (fx : flatV x = true) : ∀ {xs : List V} {us : List Value}, Vals xs us → xs.all flatV = true → ∀ u ∈ us, SeqAt.EqAt A s u v (eqU x u)
  | _, _, .nil, _ => fun u hu => by cases hu
  | y :: xs, u :: us, .cons r t, f => fun u' hu => by
    rw [List.all_cons, Bool.and_eq_true] at f
    rcases List.mem_cons.mp hu with rfl | hu
    · rw [eqU_of r f.1]; exact eqAt_V r rx f.1 fx
    · exact mem_eqAt rx fx t f.2 u' hu
noncomputable def inV (x : V) (xs : List V) : Bool := xs.any fun y => eqV y x
noncomputable def rIn (K : PySem.W.Frag) (neg : Bool) : R2 := fun x y H Q => ∃ p xs, y = .ref p ∧ (SqL K H p xs ∨ SqT K H p xs) ∧ flatV x = true ∧ xs.all flatV = true ∧ Q (.bl (if neg then !inV x xs else inV x xs)) H
theorem op_in_seq : OpR X (compareOp .In) (rIn X.K false) := by
  intro pins s σ H x y v u Q I rx ry h
  obtain ⟨p, xs, rfl, hq, fx, fs, q⟩ := h
  cases ry
  rcases hq with hq | hq
  · obtain ⟨its, r, pl, hz⟩ := I.list hq
    refine SeqAt.in_listAt (eqU x) pl.isList (fun w hw => mem_eqAt rx fx r fs w (by simpa using hw)) ⟨.bl _, H, I, rfl, ?_⟩
    rw [show its.toArray.any (eqU x) = its.any (eqU x) by simp, any_eqU r fs]
    exact q
  · obtain ⟨its, r, pl, hz⟩ := I.tuple hq
    refine SeqAt.in_tupleAt (eqU x) pl (fun w hw => mem_eqAt rx fx r fs w (by simpa using hw)) ⟨.bl _, H, I, rfl, ?_⟩
    rw [show its.toArray.any (eqU x) = its.any (eqU x) by simp, any_eqU r fs]
    exact q
theorem op_notIn_seq : OpR X (compareOp .NotIn) (rIn X.K true) := by
  intro pins s σ H x y v u Q I rx ry h
  obtain ⟨p, xs, rfl, hq, fx, fs, q⟩ := h
  cases ry
  rcases hq with hq | hq
  · obtain ⟨its, r, pl, hz⟩ := I.list hq
    refine SeqAt.notIn_listAt (eqU x) pl.isList (fun w hw => mem_eqAt rx fx r fs w (by simpa using hw)) ⟨.bl _, H, I, rfl, ?_⟩
    rw [show its.toArray.any (eqU x) = its.any (eqU x) by simp, any_eqU r fs]
    exact q
  · obtain ⟨its, r, pl, hz⟩ := I.tuple hq
    refine SeqAt.notIn_tupleAt (eqU x) pl (fun w hw => mem_eqAt rx fx r fs w (by simpa using hw)) ⟨.bl _, H, I, rfl, ?_⟩
    rw [show its.toArray.any (eqU x) = its.any (eqU x) by simp, any_eqU r fs]
    exact q
theorem call_len_seq : CallR X (.builtin "len") (fun xs H Q => ∃ p ys, xs = [.ref p] ∧ (SqL X.K H p ys ∨ SqT X.K H p ys) ∧ Q (.int ys.length) H) := by
  intro pins s σ H xs us Q I r h
  obtain ⟨p, ys, rfl, hq, q⟩ := h
  obtain ⟨u, rfl, rx⟩ := vals1 r
  cases rx
  have hn := line63
  rcases hq with hq | hq
  · obtain ⟨its, r', pl, hz⟩ := I.list hq
    have hlen := r'.length
    exact Calls.call_len_list pl.isList (by simp only [List.size_toArray] <;> omega) ⟨.int ys.length, H, I.tok _, ⟨s.toks + 1, by rw [List.size_toArray, hlen]⟩, q⟩
  · obtain ⟨its, r', pl, hz⟩ := I.tuple hq
    have hlen := r'.length
    exact len_tuple pl (by simp only [List.size_toArray] <;> omega) ⟨.int ys.length, H, I.tok _, ⟨s.toks + 1, by rw [List.size_toArray, hlen]⟩, q⟩
theorem call_list_of : CallR X (.type "list") (fun xs H Q => ∃ p ys, xs = [.ref p] ∧ (SqL X.K H p ys ∨ SqT X.K H p ys) ∧ ∀ l, H l = none → Q (.ref l) (upd H l (.lst ys))) := by
  intro pins s σ H xs us Q I r h
  obtain ⟨p, ys, rfl, hq, q⟩ := h
  obtain ⟨u, rfl, rx⟩ := vals1 r
  cases rx
  have fin : ∀ (its : List Value), Vals ys its → ys.length ≤ sizeLine → ∀ (h' : Heap) (c' : Nat), (∀ b o', s.heap.get? b = some o' → h'.get? b = some o') →
      h'.get? s.heap.objs.size = some { cls := .type "list", dict := none, data := .seq its.toArray c', slots := #[] } → EP X pins σ Q (.ref s.heap.objs.size) { s with heap := h' } := fun its r' hz h' c' kp e =>
    ⟨.ref s.heap.objs.size, _, I.laid (t' := s.toks) kp (Nat.le_refl _) (show ObjOk X.prog X.w _ h' _ (.lst ys) from ⟨hz, its, c', r', e⟩), rfl, q _ (I.hok.fresh (Nat.le_refl _))⟩
  rcases hq with hq | hq
  · obtain ⟨its, r', pl, hz⟩ := I.list hq
    have hlen := r'.length
    obtain ⟨o, ho, hc, n, hd⟩ := pl.isList
    exact call_list_seq p (.inl rfl) ho hc hd (fun h' c' kp e => fin its r' hz h' c' kp e) (by simp only [List.size_toArray] <;> omega)
  · obtain ⟨its, r', pl, hz⟩ := I.tuple hq
    have hlen := r'.length
    obtain ⟨o, ho, hc, n, hd⟩ := pl
    exact call_list_seq p (.inr rfl) ho hc hd (fun h' c' kp e => fin its r' hz h' c' kp e) (by simp only [List.size_toArray] <;> omega)
theorem call_tuple_of : CallR X (.type "tuple") (fun xs H Q => ∃ p ys, xs = [.ref p] ∧ ((SqL X.K H p ys ∧ ∀ l, H l = none → Q (.ref l) (upd H l (.tup ys))) ∨ (SqT X.K H p ys ∧ Q (.ref p) H))) := by
  intro pins s σ H xs us Q I r h
  obtain ⟨p, ys, rfl, h⟩ := h
  obtain ⟨u, rfl, rx⟩ := vals1 r
  cases rx
  rcases h with ⟨hq, q⟩ | ⟨hq, q⟩
  · obtain ⟨its, r', pl, hz⟩ := I.list hq
    have hlen := r'.length
    refine call_tuple_list pl.isList (fun h' kp => ?_) (by simp only [List.size_toArray] <;> omega)
    have I1 : Inv X pins σ H { s with heap := h' } := I.kept (t' := s.toks) kp
    have I2 : Inv X pins σ (upd H h'.objs.size (.tup ys)) { s with heap := h'.push { cls := .type "tuple", data := .seq its.toArray } } :=
      I1.laid (t' := s.toks) (fun b o e => Heap.get?_push_of_some _ e) (Nat.le_refl _) (show ObjOk X.prog X.w _ _ _ (.tup ys) from ⟨hz, its, r', IsTup.new _ _⟩)
    exact ⟨.ref h'.objs.size, _, I2, rfl, q _ (I1.hok.fresh (Nat.le_refl _))⟩
  · obtain ⟨its, r', pl, hz⟩ := I.tuple hq
    exact call_tuple_same pl ⟨.ref p, H, I, rfl, q⟩
noncomputable def tyV (K : PySem.W.Frag) (T : String) (x : V) (H : Hp) : Prop := match x with
  | .str _ => T = "str"
  | .int _ => T = "int"
  | .ref p => (T = "list" ∧ ∃ xs, SqL K H p xs) ∨ (T = "tuple" ∧ ∃ o, K.lookup p = some o ∧ o.cls = .type "tuple" ∧ o.dict = none) ∨
      (T = "dict" ∧ ((∃ kvs, H p = some (.dK kvs)) ∨ ∃ kvs, H p = some (.dT kvs))) ∨ (T = "set" ∧ ∃ S n, H p = some (.set S n))
  | _ => False
theorem tyV_is {pins : List (Addr × Obj)} {σ : St} {H : Hp} {s : Shared} {T : String} {x : V} {v : Value} (I : Inv X pins σ H s) (r : RelV x v) (ty : tyV X.K T x H) :
    s.TypeIs v T ∧ ∀ a, v = .ref a → ∃ ob, s.heap.get? a = some ob ∧ ob.dict = none := by
  cases x with
  | str z =>
    obtain ⟨t, rfl⟩ := r
    cases (show T = "str" from ty)
    exact ⟨typeIs_str s z t, fun _ e => nomatch e⟩
  | int i =>
    obtain ⟨t, rfl⟩ := r
    cases (show T = "int" from ty)
    exact ⟨typeIs_int s i t, fun _ e => nomatch e⟩
  | ref p =>
    cases r
    rcases ty with ⟨rfl, xs, hq⟩ | ⟨rfl, o, hk, hc, hd⟩ | ⟨rfl, hk⟩ | ⟨rfl, S, n, hk⟩
    · obtain ⟨its, _, pl, _⟩ := I.list hq
      refine ⟨pl.isList.typeIs, fun a e => ?_⟩
      cases e
      obtain ⟨o, n, e, c, hd, _⟩ := pl
      exact ⟨o, e, hd⟩
    · refine ⟨⟨o, I.kIn p o hk, hc⟩, fun a e => ?_⟩
      cases e
      exact ⟨o, I.kIn _ o hk, hd⟩
    · have z : ∃ o, s.heap.get? p = some o ∧ o.ExactDict := by
        rcases hk with ⟨kvs, hk⟩ | ⟨kvs, hk⟩
        · obtain ⟨_, _, _, _, o, _, _, e, ex, _⟩ := I.hok p _ hk
          exact ⟨o, e, ex⟩
        · obtain ⟨_, _, _, _, o, _, _, e, ex, _⟩ := I.hok p _ hk
          exact ⟨o, e, ex⟩
      obtain ⟨o, e, ex⟩ := z
      refine ⟨⟨o, e, ex.1⟩, fun a e2 => ?_⟩
      cases e2
      exact ⟨o, e, ex.2.1⟩
    · obtain ⟨o, _, _, _, e, ex, _⟩ := I.hok p _ hk
      refine ⟨⟨o, e, ex.1⟩, fun a e2 => ?_⟩
      cases e2
      exact ⟨o, e, ex.2.1⟩
  | _ => exact False.elim ty
noncomputable def tBM0 (K : PySem.W.Frag) (T : String) (r : V → List V → Hp → VK → Prop) (to : TE) : TE := fun σ H Q => to σ H fun x H1 => tyV K T x H1 ∧ r x [] H1 Q
noncomputable def tBM (K : PySem.W.Frag) (T : String) (r : V → List V → Hp → VK → Prop) (to : TE) (t : TA) : TE := fun σ H Q => to σ H fun x H1 => tyV K T x H1 ∧ t σ H1 fun xs H2 => r x xs H2 Q
variable {o e : Expr} {es : List Expr} {to : TE} {t : TA} {name : Str} {apos cpos : Pos} {T id : String} {r : V → List V → Hp → VK → Prop}
theorem pe_bm0 (pa : PlainAttrs T) (slot : Slot T name id) (hty : typeOf (.builtin id) = pure (.type "method_descriptor")) (hm : MtR X id r) (ho : PE X o to)
    (hbase : attributeBase o name X.env (eval o X.env) = eval o X.env := by rfl) (hline : (apos.endLine == cpos.line) = true := by rfl) : PE X (.Call (.Attribute o name apos) [] [] cpos) (tBM0 X.K T r to) := by
  intro pins s σ H Q I h
  refine wpAny_Call_method0_late hbase hline (thn (ho pins s σ H _ I h) fun v s1 ⟨x, H1, I1, r1, ty, q1⟩ => ?_)
  obtain ⟨h1, h2⟩ := tyV_is I1 r1 ty
  exact ⟨T, id, pa, slot, hty, h1, h2, Calls.callWith_builtin rfl (PySem.evalArgs_none (hm pins s1 σ H1 x [] v [] Q I1 r1 .nil q1))⟩
theorem pe_bm (pa : PlainAttrs T) (slot : Slot T name id) (hty : typeOf (.builtin id) = pure (.type "method_descriptor")) (hm : MtR X id r) (ho : PE X o to) (ha : PA X (e :: es) t)
    (hbase : attributeBase o name X.env (eval o X.env) = eval o X.env := by rfl)
    (hfew : ((backTo cpos (starEach (e :: es) X.env)).all (fun x => !x.1) && (backToKw cpos (keywordEach [] X.env)).all (fun x => x.1.isSome)
      && decide ((e :: es).length + ([] : List Keyword).length + (if ([] : List Keyword).isEmpty then 0 else 1) < 30)) = true := by rfl)
    (hline : (apos.endLine == cpos.line) = true := by rfl) (hs : starEach (e :: es) X.env = (false, eval e X.env) :: starEach es X.env := by rfl) (hplain : (backTo cpos (starEach es X.env)).any (·.1) = false := by rfl) :
    PE X (.Call (.Attribute o name apos) (e :: es) [] cpos) (tBM X.K T r to t) := by
  intro pins s σ H Q I h
  refine wpAny_Call_method_late hbase hfew hline rfl (thn (ho pins s σ H _ I h) fun v s1 ⟨x, H1, I1, r1, ty, q1⟩ => ?_)
  obtain ⟨h1, h2⟩ := tyV_is I1 r1 ty
  refine ⟨T, id, pa, slot, hty, h1, h2, ?_⟩
  have hA := ha cpos pins s1 σ H1 _ I1 q1
  rw [hs] at hA ⊢
  refine Calls.callWith_builtin (by show (false || (backTo cpos (starEach es X.env)).any (·.1)) = false; rw [hplain] <;> rfl) (Calls.evalArgs_plain ?_)
  exact thn hA fun us s2 ⟨vs, H2, I2, r2, q2⟩ => hm pins s2 σ H2 x vs v us Q I2 r1 r2 q2
end
end L2
namespace L2
open PySem PySem.Spec PyProof.Rows
noncomputable def MtM (X : Cx) (id : String) (r : V → List V → Hp → VK → Prop) : Prop :=
  ∀ (pins : List (Addr × Obj)) (s : Shared) (σ : St) (H : Hp) (x : V) (xs : List V) (v : Value) (us : List Value) (Q : VK), Inv X pins σ H s → RelV x v → Vals xs us → r x xs H Q →
    wpAny (model X.prog X.w) X.A (call (.builtin id) (v :: us)) (EP X pins σ Q) X.xe s
theorem Vals.one : ∀ {x : V} {us : List Value}, Vals [x] us → ∃ u, us = [u] ∧ RelV x u
  | _, _, .cons r .nil => ⟨_, rfl, r⟩
theorem Vals.zero : ∀ {us : List Value}, Vals [] us → us = []
  | _, .nil => rfl
theorem Vals.dropLast {xs : List V} {us : List Value} (h : Vals xs us) : Vals xs.dropLast us.dropLast := by
  induction h with
  | nil => exact .nil
  | cons r t ih =>
    cases t with
    | nil => exact .nil
    | cons q t' => exact .cons r ih
theorem Vals.eraseIdx : ∀ {xs : List V} {us : List Value} (i : Nat), Vals xs us → Vals (xs.eraseIdx i) (us.eraseIdx i)
  | _, _, _, .nil => .nil
  | _, _, 0, .cons _ t => t
  | _, _, i + 1, .cons r t => .cons r (Vals.eraseIdx i t)
theorem Vals.reverse {xs : List V} {us : List Value} (h : Vals xs us) : Vals xs.reverse us.reverse := by
  induction h with
  | nil => exact .nil
  | cons r t ih => rw [List.reverse_cons, List.reverse_cons]; exact Vals.append ih (.cons r .nil)
theorem erase_last {α : Type} (l : List α) : l.eraseIdx (l.length - 1) = l.dropLast := by
  induction l with
  | nil => rfl
  | cons a r ih =>
    cases r with
    | nil => rfl
    | cons b r =>
      have e : (a :: b :: r).length - 1 = ((b :: r).length - 1) + 1 := by
        have h1 : (a :: b :: r).length = r.length + 2 := rfl
        have h2 : (b :: r).length = r.length + 1 := rfl
        omega
      rw [e, List.eraseIdx_cons_succ, ih]
      all_goals rfl
theorem len_erase {α : Type} : ∀ (l : List α) (i : Nat), (l.eraseIdx i).length ≤ l.length
  | [], _ => Nat.le_refl _
  | _ :: _, 0 => Nat.le_succ _
  | _ :: r, i + 1 => Nat.succ_le_succ (len_erase r i)
section
variable {X : Cx} {pins : List (Addr × Obj)} {σ : St} {H : Hp} {s : Shared} {l b : Addr} {xs ys zs : List V}
theorem Inv.lset {its its' : List Value} {n : Nat} {f : Array Value → Array Value} {t' : Nat} (I : Inv X pins σ H s) (hH : H l = some (.lst xs))
    (e : s.heap.get? l = some { cls := .type "list", data := .seq its.toArray n }) (hf : f its.toArray = its'.toArray) (hv : Vals ys its') (hz : ys.length ≤ sizeLine) :
    Inv X pins σ (upd H l (.lst ys)) { s with heap := s.heap.update l (Obj.mapSeq f), toks := t' } := by
  have q := PySem.IsL.update e f
  rw [hf] at q
  refine I.write (x := l) (e := l) (by rw [hH]; exact trivial) (.inl rfl) (fun b' u hb hu => (Heap.get?_update_other s.heap (Obj.mapSeq f) (Ne.symm hb)).trans hu) ⟨_, q⟩ ?_
  exact ⟨hz, its', _, hv, q⟩
theorem Inv.lstM (I : Inv X pins σ H s) (hH : H l = some (.lst xs)) : xs.length ≤ sizeLine ∧ ∃ (its : List Value) (n : Nat), Vals xs its ∧ xs.length = its.length ∧ s.heap.get? l = some { cls := .type "list", data := .seq its.toArray n } := by
  obtain ⟨z, its, n, r, e⟩ := I.hok l _ hH
  exact ⟨z, its, n, r, r.length, e⟩
theorem notLongL {n : Nat} (h : n ≤ sizeLine) : Builtin.List.listTooLong n = false := by
  unfold Builtin.List.listTooLong
  exact decide_eq_false (by omega)
end
section
variable {X : Cx}
noncomputable def rAppend : V → List V → Hp → VK → Prop := fun x vs H Q => ∃ l xs y, x = .ref l ∧ vs = [y] ∧ H l = some (.lst xs) ∧ xs.length < sizeLine ∧ Q .non (upd H l (.lst (xs ++ [y])))
theorem mt_append : MtM X "list.append" rAppend := by
  intro pins s σ H x vs v us Q I rx rv h
  obtain ⟨l, xs, y, rfl, rfl, hH, hz, q⟩ := h
  cases rx
  obtain ⟨u, rfl, ru⟩ := rv.one
  obtain ⟨z, its, n, r, hl, e⟩ := I.lstM hH
  refine call_meets F.slot_list_append ⟨_, e, rfl⟩ F.entry_list_append (F.args_list_append_2 _ _) (PySem.list_append l its.toArray n u (by rw [List.size_toArray]; omega)) ⟨e, ?_⟩
  refine ⟨.non, _, I.lset (its' := its ++ [u]) hH e (by simp) (r.append (.cons ru .nil)) ?_, rfl, q⟩
  rw [List.length_append, List.length_singleton]
  omega
noncomputable def rExtend : V → List V → Hp → VK → Prop := fun x vs H Q => ∃ l b xs zs, x = .ref l ∧ vs = [.ref b] ∧ H l = some (.lst xs) ∧ H b = some (.lst zs) ∧ xs.length + zs.length ≤ sizeLine ∧ Q .non (upd H l (.lst (xs ++ zs)))
theorem mt_extend : MtM X "list.extend" rExtend := by
  intro pins s σ H x vs v us Q I rx rv h
  obtain ⟨l, b, xs, zs, rfl, rfl, hH, hB, hz, q⟩ := h
  cases rx
  obtain ⟨u, rfl, ru⟩ := rv.one
  cases ru
  obtain ⟨z, its, n, r, hl, e⟩ := I.lstM hH
  obtain ⟨z2, its2, n2, r2, hl2, e2⟩ := I.lstM hB
  have hsz : its.toArray.size + its2.toArray.size ≤ sizeLine := by rw [List.size_toArray, List.size_toArray]; omega
  have hlong : ¬ (!its.toArray.isEmpty && Builtin.List.listTooLong (its.toArray.size + its2.toArray.size)) = true := by
    rw [notLongL hsz, Bool.and_false]
    exact Bool.false_ne_true
  refine call_meets F.slot_list_extend ⟨_, e, rfl⟩ F.entry_list_extend (F.args_list_extend_2 _ _)
    (AutoSeq1.list_extend_list_list_0 l its.toArray n b its2.toArray n2 hlong (by rw [List.size_toArray]; omega) (by omega)) ⟨e, e2, ?_⟩
  refine ⟨.non, _, I.lset (its' := its ++ its2) hH e (by simp) (r.append r2) ?_, rfl, q⟩
  rw [List.length_append]
  omega
noncomputable def rPop : V → List V → Hp → VK → Prop := fun x vs H Q => ∃ l xs y, x = .ref l ∧ vs = [] ∧ H l = some (.lst xs) ∧ xs[xs.length - 1]? = some y ∧ Q y (upd H l (.lst xs.dropLast))
theorem mt_pop : MtM X "list.pop" rPop := by
  intro pins s σ H x vs v us Q I rx rv h
  obtain ⟨l, xs, y, rfl, rfl, hH, hy, q⟩ := h
  cases rx
  have hus := rv.zero
  subst hus
  obtain ⟨z, its, n, r, hl, e⟩ := I.lstM hH
  obtain ⟨u, hu, ru⟩ := r.get hy
  have hy' : its.toArray[its.toArray.size - 1]? = some u := by
    show its.toArray[its.length - 1]? = some u
    rw [← Array.getElem?_toList, ← hl]
    exact hu
  refine call_meets F.slot_list_pop ⟨_, e, rfl⟩ F.entry_list_pop (F.args_list_pop_1 _) (MeetsSeq.list_pop_last l its.toArray n u hy' (by rw [List.size_toArray]; omega)) ⟨e, ?_⟩
  refine ⟨y, _, I.lset (its' := its.dropLast) hH e ?_ r.dropLast ?_, ru, q⟩
  · show its.toArray.eraseIdxIfInBounds (its.toArray.size - 1) = its.dropLast.toArray
    rw [List.size_toArray, List.eraseIdxIfInBounds_toArray, erase_last]
  · rw [List.length_dropLast]
    omega
noncomputable def rPopAt : V → List V → Hp → VK → Prop := fun x vs H Q => ∃ l xs i k y, x = .ref l ∧ vs = [.int i] ∧ H l = some (.lst xs) ∧ -(2 ^ 63) ≤ i ∧ i < 2 ^ 63 ∧ seqIndex? i xs.length = some k ∧ xs[k]? = some y ∧ Q y (upd H l (.lst (xs.eraseIdx k)))
theorem mt_popAt : MtM X "list.pop" rPopAt := by
  intro pins s σ H x vs v us Q I rx rv h
  obtain ⟨l, xs, i, k, y, rfl, rfl, hH, h1, h2, hk, hy, q⟩ := h
  cases rx
  obtain ⟨u, rfl, ru⟩ := rv.one
  obtain ⟨t, rfl⟩ := ru
  obtain ⟨z, its, n, r, hl, e⟩ := I.lstM hH
  obtain ⟨w, hw, rw'⟩ := r.get hy
  refine call_meets F.slot_list_pop ⟨_, e, rfl⟩ F.entry_list_pop (F.args_list_pop_2 _ _)
    (MeetsSeq.list_pop_at l its.toArray n i t k w (fitsIndex_both h1 h2) (by rw [List.size_toArray, ← hl]; exact hk) (by rw [← Array.getElem?_toList]; exact hw) (by rw [List.size_toArray]; omega)) ⟨e, ?_⟩
  refine ⟨y, _, I.lset (its' := its.eraseIdx k) hH e ?_ (r.eraseIdx k) ?_, rw', q⟩
  · show its.toArray.eraseIdxIfInBounds k = (its.eraseIdx k).toArray
    rw [List.eraseIdxIfInBounds_toArray]
  · have := len_erase xs k
    omega
noncomputable def rReverse : V → List V → Hp → VK → Prop := fun x vs H Q => ∃ l xs, x = .ref l ∧ vs = [] ∧ H l = some (.lst xs) ∧ Q .non (upd H l (.lst xs.reverse))
theorem mt_reverse : MtM X "list.reverse" rReverse := by
  intro pins s σ H x vs v us Q I rx rv h
  obtain ⟨l, xs, rfl, rfl, hH, q⟩ := h
  cases rx
  have hus := rv.zero
  subst hus
  obtain ⟨z, its, n, r, hl, e⟩ := I.lstM hH
  refine call_meets F.slot_list_reverse ⟨_, e, rfl⟩ F.entry_list_reverse (F.args_list_reverse_1 _) (AutoSeq1.list_reverse_list_0 l its.toArray n (by rw [List.size_toArray]; omega)) ⟨e, ?_⟩
  refine ⟨.non, _, I.lset (its' := its.reverse) hH e (by simp) r.reverse ?_, rfl, q⟩
  rw [List.length_reverse]
  omega
end
section
variable {prog : Program} {w : World} {A : Around} {E : Value → Shared → Prop} {s : Shared}
set_option maxRecDepth 100000 in
end
section
variable {X : Cx}
end
end L2
namespace Att
open PySem PySem.W PySem.Calls PyProof.Rows
theorem ints_of_wellAll {P : Params} {h : Heap} : ∀ (ns : List Int) (vs : List Value), WellAll P h vs (ns.map WData.int) → IntsAre vs ns := by
  intro ns
  induction ns with
  | nil =>
    intro vs w
    rw [List.map_nil] at w
    cases w
    exact .nil
  | cons n ns ih =>
    intro vs w
    rw [List.map_cons] at w
    cases w with
    | cons a b =>
      cases a
      exact .cons _ _ (ih _ b)
theorem script_of {l : OpenLaw} {n : Nat} (hn : l.most = some n) {P : Params} {h : Heap} {args : List WData} {vals : List Value}
    (hpre : l.row.toRowW.claim.pre args = true) (hwl : WellAll P h vals args) :
    ∃ a vs ns, vals = [Value.ref a] ∧ args = [WData.list (ns.map WData.int)] ∧ h.get? a = some { cls := .type "list", data := .seq vs.toArray } ∧ IntsAre vs ns ∧ ns.length ≤ n := by
  have hsh : WShape.hasAll [] args [.list .int] = true := (pre_splitW hpre).1
  have hc : l.pre.holds [] { args := args } = true := (pre_splitW hpre).2
  obtain ⟨d, r, rfl, h1, h2⟩ := hasAllW_cons hsh
  obtain rfl := hasAllW_nil h2
  obtain ⟨xs, rfl, h3⟩ := hasW_list h1
  obtain ⟨ns, rfl⟩ := items_int h3
  have hlen : ns.length ≤ n := by
    unfold OpenLaw.pre at hc
    have h4 : (WTm.not (.lt (.lit (.int (n : Int))) (.len (.arg 0)))).holds [] { args := [.list (ns.map .int)] } = true := by
      have h4 := (holds_andW hc).1
      rw [hn] at h4
      exact h4
    have h5 := condW_of h4 (w_not (w_lt w_lit (w_len_list (w_arg rfl))))
    rw [List.length_map] at h5
    refine Nat.le_of_not_lt fun q => ?_
    have q' : (n : Int) < ((ns.length : Nat) : Int) := by omega
    first
      | (rw [decide_eq_true q'] at h5; exact absurd h5 (by decide))
      | (simp at h5; omega)
  cases hwl with
  | cons w1 w2 =>
    cases w2
    cases w1 with
    | list ho hall => exact ⟨_, _, ns, rfl, rfl, ho, ints_of_wellAll ns _ hall, hlen⟩
theorem post_true (l : OpenLaw) (args : List WData) : l.row.toRowW.claim.post args (.bool true) args = true :=
  postW_of (r := l.row.toRowW) (X := (true == true))
    (show WShape.has [] (.bool true) .bool = true by first | rfl | decide | simp [WShape.has, WShape.arms, WShape.armsAll])
    (show (WTm.eq .res (.lit (.bool true))).value [] { args := args, res := some (.bool true), after := args } = some (.bool (true == true)) from w_eq_bool (w_res rfl) w_lit) rfl
theorem attach_call {l : OpenLaw} {n : Nat} {q : Program} {loose : List Str} {XP : (Str → Option Value) → Heap → Prop} {YP : World → Heap → Prop} {d : DefRec}
    (hn : l.most = some n) (hdf : d.params.defaults = [])
    (call : ∀ (w : World) (s₀ s₁ : Shared) (mg mb : Str → Option Value) (fa : Addr) (o : Obj) (pm cd doc : Value) (a : Addr) (vs : List Value) (ns : List Int),
      Ground q loose [] XP w s₀ mg mb s₁.heap → YP w s₁.heap →
      s₁.heap.get? fa = some o → o.data = .func (docDef d.name d.params d.body d.scope pm cd doc) → s₁.heap.CodeRec cd d.name → mg d.name = some (.ref fa) →
      s₁.heap.get? a = some { cls := .type "list", data := .seq vs.toArray } → IntsAre vs ns → ns.length ≤ n → s₁.gens = #[] →
      codeAny (model l.prog w) callerA (.call (.ref fa) ⟨[.ref a], []⟩) (fun r s' => r = .ok (.ret (.bool true)) ∧ OldK s₁.heap s'.heap ∧ s'.os = s₁.os ∧ AllBare s'.gens) s₁) :
    WalkO q loose XP YP l.row.toRowW d [] (fun f vs => PySem.call f vs) := by
  intro w s₀ s₁ mg mb G Y fa o pm cd doc dV kV ho hd hcd hD hmg hg args vals as hpre hlay hrd hwl hlo
  obtain rfl : dV = .none := Dflts.none hD hdf
  obtain rfl : kV = .none := Dflts.noKw hD
  obtain ⟨a, vs, ns, rfl, rfl, hobj, hints, hlen⟩ := script_of hn hpre hwl
  refine enter_call (codeAny_mono (call w s₀ s₁ mg mb fa o pm cd doc a vs ns G Y ho (fd_plain hd) hcd hmg hobj hints hlen hg) fun r s' hq => ?_)
  obtain ⟨rfl, h2, h3, h4⟩ := hq
  exact ⟨.inl ⟨.bool true, .bool true, [], rfl, fun _ => rfl, .bool true, post_true l _, fun _ => ⟨List.Pairwise.nil, fun _ hm => (nomatch hm)⟩⟩, h2, h3, h4⟩
section
variable {prog : Program} {w : World} {A : Around} {E : Value → Shared → Prop} {s : Shared} {K : Frag}
end
end Att
namespace L2
open PySem PySem.Spec PyProof.Rows
theorem vals_ints : ∀ {vs : List Value} {ns : List Int}, IntsAre vs ns → Vals (ns.map V.int) vs
  | _, _, .nil => .nil
  | _, _, .cons n t h => .cons ⟨t, rfl⟩ (vals_ints h)
noncomputable def Only (H : Hp) : Prop := ∀ b, H b = none ∨ ∃ o xs, H b = some (.frz o (.lst xs))
theorem law_call {P : Program} {w : World} {K : PySem.W.Frag} {mg mb : Str → Option Value} {CX : CXT} {k : Nat} {fa a : Addr} {fd : FuncData} {x : Str} {sp : Sp} {s₁ : Shared} {vs : List Value} {ns : List Int}
    (KX : K.In s₁.heap) (hns : s₁.heap.Ns mainGlobals mg) (hb : s₁.heap.Ns builtinsNs mb) (hbb : ∀ x : Str, x ≠ "__name__" → mb x = bootBuiltins x) (hlim : s₁.heap.NoLimit) (hg : s₁.gens = #[])
    (ha : s₁.heap.get? a = some { cls := .type "list", data := .seq vs.toArray }) (hi : IntsAre vs ns) (hl : ns.length ≤ sizeLine) (hr : Room k callerA)
    (F : ∀ base : Heap, K.In base → base.Ns mainGlobals mg → FnOk P w K mg base CX k fa fd [x] sp) (hbind : ∀ (s : Shared) (u : Value), BindsTo s fd ⟨[u], []⟩ [(x, u)])
    (hsp : ∀ H : Hp, Only H → SqL K H a (ns.map V.int) → sp [.ref a] H (fun v _ => v = .bl true) fun _ _ _ => False)
    (hCX : ∀ H e s', CX [] H s₁ (fun _ _ _ => False) e s' → False) :
    codeAny (model P w) callerA (.call (.ref fa) ⟨[.ref a], []⟩) (fun r s' => r = .ok (.ret (.bool true)) ∧ OldK s₁.heap s'.heap ∧ s'.os = s₁.os ∧ AllBare s'.gens) s₁ := by
  have rv := vals_ints hi
  have lenV := hi.length
  have core : ∀ H : Hp, Only H → SqL K H a (ns.map V.int) → HOk P w H s₁.heap → (∀ b, H b ≠ none → b = a) → (H a ≠ none → K.lookup a = none) →
      codeAny (model P w) callerA (.call (.ref fa) ⟨[.ref a], []⟩) (fun r s' => r = .ok (.ret (.bool true)) ∧ OldK s₁.heap s'.heap ∧ s'.os = s₁.os ∧ AllBare s'.gens) s₁ := by
    intro H hO hS hok hA hK
    have base_of : ∀ {b : Addr} {o : Obj}, s₁.heap.get? b = some o → H b = none → (hidT s₁.heap H).get? b = some o := fun e n => hidT_get e n
    have noA : ∀ {b : Addr} {o : Obj} {es : Array DictEntry} {ep : Nat}, s₁.heap.get? b = some o → o.data = .dict es ep → H b = none := fun {b o es ep} e d => by
      cases q : H b with
      | none => rfl
      | some u =>
        have e' : b = a := hA b (by rw [q]; simp)
        subst e'
        rw [ha] at e; cases e
        have d' : Data.seq vs.toArray _ = Data.dict es ep := d
        cases d'
    have nsK : ∀ {b : Addr} {m : Str → Option Value}, s₁.heap.Ns b m → (hidT s₁.heap H).Ns b m := fun {b m} ⟨o, es, ep, e, d, r⟩ => ⟨o, es, ep, base_of e (noA e d), d, r⟩
    have hKb : K.In (hidT s₁.heap H) := fun b o e => base_of (KX b o e) (by
      cases q : H b with
      | none => rfl
      | some u =>
        have e' : b = a := hA b (by rw [q]; simp)
        subst e'
        rw [hK (by rw [q]; simp)] at e; cases e)
    have hM : Mod K mg (hidT s₁.heap H) := ⟨hKb, nsK hns, ⟨mb, nsK hb, hbb⟩, let ⟨mc, h1, h2⟩ := hlim; ⟨mc, nsK h1, h2⟩⟩
    have e0 : Env0 P w K mg (hidT s₁.heap H) callerA [] s₁ H := ⟨rfl, hM, fun b o e => of_hidT e, Nat.le_of_eq (hidT_size _ _), trivial, fun b hb => absurd (show b ∈ ([] : List Addr) from hb) (by simp), hok, .of_eq hg⟩
    refine codeAny_mono ((F _ hKb (nsK hns)).run callerA [] s₁ H ⟨[.ref a], []⟩ [.ref a] [.ref a] _ _ hr e0 (hbind s₁ (.ref a)) (.cons rfl .nil) (hsp H hO hS)) fun r s' h => ?_
    cases r with
    | error e => exact (hCX H e s' h).elim
    | ok fl =>
      cases fl with
      | next => exact False.elim h
      | brk => exact False.elim h
      | cont => exact False.elim h
      | ret u =>
        obtain ⟨v, H', os, bare, un, hok', r', q⟩ := h
        have q' : v = .bl true := q
        subst q'
        obtain rfl : u = Value.bool true := r'
        refine ⟨rfl, OldK.of_keep fun b o e => ?_, os, bare⟩
        cases q : H b with
        | none => exact un.keep b o e q (by intro z; exact absurd (show b ∈ ([] : List Addr) from z) (by simp)) (by simp)
        | some u =>
          rcases hO b with z | ⟨ob, xs, z⟩
          · rw [q] at z; cases z
          · have z2 := un.frzs b ob _ z
            obtain ⟨e1, _⟩ := hok b _ z
            obtain ⟨e2, _⟩ := hok' b _ z2
            rw [e] at e1; cases e1
            exact e2
  cases hk : K.lookup a with
  | some o =>
    have e := KX a o hk
    rw [ha] at e
    cases e
    refine core (fun _ => none) (fun _ => .inl rfl) (.inr ⟨_, vs.toArray, _, hk, rfl, rfl, rfl, by rw [List.size_toArray, lenV]; exact hl, by simpa using rv⟩) (fun b u z => by have z' : (none : Option HO) = some u := z; cases z') (fun b z => absurd rfl z) fun z => absurd rfl z
  | none =>
    refine core (fun b => if b = a then some (.frz { cls := .type "list", data := .seq vs.toArray } (.lst (ns.map V.int))) else none) (fun b => ?_) (.inl (.inr ⟨{ cls := .type "list", data := .seq vs.toArray }, if_pos rfl⟩)) (fun b u z => ?_) (fun b z => ?_) fun _ => hk
    · by_cases hb : b = a
      · exact .inr ⟨_, _, if_pos hb⟩
      · exact .inl (if_neg hb)
    · by_cases hb : b = a
      · have z' := (if_pos hb).symm.trans z
        cases z'
        subst hb
        exact ⟨ha, by rw [List.length_map]; exact hl, vs, _, rv, ha⟩
      · have z' := (if_neg hb).symm.trans z
        cases z'
    · by_cases hb : b = a
      · exact hb
      · exact absurd (if_neg hb) z
end L2
namespace L2
open PySem PySem.Spec PyProof.Rows
noncomputable abbrev KOf {K : PySem.W.Frag} {h : Heap} (_ : K.In h) : PySem.W.Frag := K
theorem walk_of {l : PySem.W.OpenLaw} {n k : Nat} {q : Program} {loose : List Str} {XP : (Str → Option Value) → Heap → Prop} {YP : World → Heap → Prop} {d : DefRec} {K : Params → PySem.W.Frag} {CX : World → CXT} {sp : World → Sp} {x : Str}
    (hn : l.most = some n) (hn2 : n ≤ sizeLine) (hdf : d.params.defaults = []) (hr : Room k callerA)
    (hY : ∀ (w : World) (h : Heap), YP w h → (K w.params).In h)
    (F : ∀ (w : World) (mg : Str → Option Value) (fa : Addr) (h : Heap), (K w.params).In h → h.Ns mainGlobals mg → mg d.name = some (.ref fa) →
      ∃ fd : FuncData, (∀ (s : Shared) (u : Value), BindsTo s fd ⟨[u], []⟩ [(x, u)]) ∧
        ∀ base : Heap, (K w.params).In base → base.Ns mainGlobals mg → FnOk l.prog w (K w.params) mg base (CX w) k fa fd [x] (sp w))
    (hsp : ∀ (w : World) (H : Hp) (a : Addr) (ns : List Int), ns.length ≤ n → Only H → SqL (K w.params) H a (ns.map V.int) → sp w [.ref a] H (fun v _ => v = .bl true) fun _ _ _ => False)
    (hCX : ∀ (w : World) (H : Hp) (s : Shared) (e : Value) (s' : Shared), CX w [] H s (fun _ _ _ => False) e s' → False) :
    PySem.W.WalkO q loose XP YP l.row.toRowW d [] (fun f vs => PySem.call f vs) := by
  refine Att.attach_call hn hdf fun w s₀ s₁ mg mb fa o pm cd doc a vs ns G Y ho hd hcd hmg hobj hints hlen hg => ?_
  have KX := hY w _ Y
  obtain ⟨fd, hb, hF⟩ := F w mg fa _ KX G.T.g hmg
  exact law_call KX G.T.g G.T.b G.T.builtins G.T.nolimit hg hobj hints (Nat.le_trans hlen hn2) hr hF hb (fun H hO hS => hsp w H a ns hlen hO hS) fun H e s' => hCX w H s₁ e s'
end L2
namespace L2
open PySem PySem.Spec PyProof.Rows
noncomputable def defArgs (s : Stmt) : Arguments := match s with
  | .FunctionDef _ a _ _ _ _ _ _ _ _ => a
  | _ => { posonlyargs := [], args := [], vararg := none, kwonlyargs := [], kw_defaults := [], kwarg := none, defaults := [] }
noncomputable def defBody (s : Stmt) : List Stmt := match s with
  | .FunctionDef _ _ b _ _ _ _ _ _ _ => b
  | _ => []
noncomputable def defScope (s : Stmt) : Scope := match s with
  | .FunctionDef _ _ _ _ _ _ sc _ _ _ => sc
  | _ => { kind := .function, names := [], isGenerator := false, isCoroutine := false }
noncomputable abbrev CX0 : CXT := fun _ _ _ _ _ _ => False
noncomputable abbrev E0 : XK := fun _ _ _ => False
theorem pass0 {X : Cx} : Passes CX0 X E0 := fun _ _ _ _ _ _ _ h => h.elim
structure Fun (K : PySem.W.Frag) (x qual : Str) (st : Stmt) (f : Addr) (fd : FuncData) : Prop where
  ex : ∃ (oc : Value) (od : Option Addr) (kV doc pm : Value) (an : Option Addr) (cdv ct : Value) (osl : Array (Option Value)),
    fd = PySem.W.fnOf x qual (defArgs st) (defBody st) (defScope st) .none kV doc pm an cdv ct ∧ K.lookup f = some ⟨oc, od, .func fd, osl⟩ ∧ PySem.W.codeIn K cdv qual = true
  kp : PySem.W.keepIn K (.ref f) = true
section
variable {P : Program} {w : World} {K : PySem.W.Frag} {mg : Str → Option Value} {base : Heap}
theorem Fun.ok {x qual : Str} {st : Stmt} {f : Addr} {fd : FuncData} {N ps : List Str} {k : Nat} {sp : Sp} (F : Fun K x qual st f fd) (S : FnScope N ps (defScope st)) (len : ∀ vs H Q E, sp vs H Q E → vs.length = ps.length)
    (hbody : ∀ (cdv : Value) (A : Around) (outer : List Env) (s : Shared) (H : Hp) (vs : List V) (Q : VK) (E : XK), Room k (A.deeper (envOfC qual (defScope st) s.heap.objs.size f cdv)) → sp vs H Q E →
      ∃ t, PSs (cxOf CX0 P w K mg base N qual (defScope st) f cdv A outer s H E).nox (defBody st) t ∧ t { nx := fun _ H' => Q .non H', rt := Q } (start N vs) H) : FnOk P w K mg base CX0 (k + 1) f fd ps sp := by
  obtain ⟨oc, od, kV, doc, pm, an, cdv, ct, osl, rfl, lk, hcd⟩ := F.ex
  refine fn_of lk hcd S len fun A outer s H vs Q E hr hsp => ?_
  obtain ⟨t, h, q⟩ := hbody cdv A outer s H vs Q E hr hsp
  exact ⟨t, h.nox, q⟩
theorem Fun.binds {x qual : Str} {st : Stmt} {f : Addr} {fd : FuncData} {ps : List Str} (F : Fun K x qual st f fd)
    (h : ∀ (kV doc pm : Value) (an : Option Addr) (cdv ct : Value) (us : List Value), us.length = ps.length → bindArgs (PySem.W.fnOf x qual (defArgs st) (defBody st) (defScope st) .none kV doc pm an cdv ct) ⟨us, []⟩ = pure (ps.zip us)) : Binds K fd ps [] := by
  obtain ⟨oc, od, kV, doc, pm, an, cdv, ct, osl, rfl, lk, hcd⟩ := F.ex
  exact .all (h kV doc pm an cdv ct)
theorem fun_mk {x qual : Str} {st : Stmt} {f : Addr} {oc : Value} {od an : Option Addr} {osl : Array (Option Value)} {kV doc pm cdv ct : Value} (l : K.lookup f = some ⟨oc, od, .func (PySem.W.fnOf x qual (defArgs st) (defBody st) (defScope st) .none kV doc pm an cdv ct), osl⟩)
    (c : PySem.W.codeIn K cdv qual = true) (k : PySem.W.keepIn K (.ref f) = true) : Fun K x qual st f (PySem.W.fnOf x qual (defArgs st) (defBody st) (defScope st) .none kV doc pm an cdv ct) := ⟨⟨oc, od, kV, doc, pm, an, cdv, ct, osl, rfl, l, c⟩, k⟩
end
theorem hu_of {A : Around} {k : Nat} (hr : Room k A) : A.units + 1 < cLine := Nat.lt_of_le_of_lt (Nat.add_le_add_left (by decide : 1 ≤ 64) _) hr.units
theorem small1000 {n : Nat} (h : n ≤ 1000) : n < sizeLine := Nat.lt_of_le_of_lt h (by decide)
section
variable {X : Cx}
theorem pv (i : Nat) {x : Str} {pos : Pos} (hN : X.N[i]? = some x := by rfl) (hv : Vis X.env.scope x := by first | exact Or.inl rfl | exact Or.inr (Or.inl rfl) | exact Or.inr (Or.inr rfl)) (hd : (x == ("__debug__" : Str)) = false := by decide)
    (hcd : (x == ("__classdict__" : Str)) = false := by decide) : PE X (.Name x pos) (tVar i) := pe_var hN hv hd hcd
end
theorem iteF {A B : Prop} (h : B) : if false = true then A else B := by
  rw [if_neg Bool.false_ne_true]
  exact h
theorem iteT {A B : Prop} (h : A) : if true = true then A else B := by
  rw [if_pos rfl]
  exact h
theorem ite2 {c A B : Prop} [Decidable c] (h1 : c → A) (h2 : ¬ c → B) : if c then A else B := by
  by_cases h : c
  · rw [if_pos h]
    exact h1 h
  · rw [if_neg h]
    exact h2 h
theorem iteNS {c A B : Prop} [Decidable c] (hc : c) (h : B) : if (!decide c) = true then A else B := by
  rw [decide_eq_true hc]
  exact iteF h
noncomputable def Same (H H' : Hp) : Prop := ∀ b o, H b = some o → H' b = some o
theorem Same.refl (H : Hp) : Same H H := fun _ _ h => h
theorem Same.trans {H H1 H2 : Hp} (a : Same H H1) (b : Same H1 H2) : Same H H2 := fun c o h => b c o (a c o h)
theorem Same.free {H H' : Hp} (e : Same H H') {l : Addr} (h : H' l = Option.none) : H l = Option.none := by
  cases q : H l with
  | none => rfl
  | some o =>
    rw [e l o q] at h
    cases h
theorem Same.seq {K : PySem.W.Frag} {H H' : Hp} {a : Addr} {xs : List V} (e : Same H H') (h : SqL K H a xs) : SqL K H' a xs := by
  rcases h with (h | ⟨o, h⟩) | h
  · exact .inl (.inl (e _ _ h))
  · exact .inl (.inr ⟨o, e _ _ h⟩)
  · exact .inr h
end L2
set_option Elab.async false
set_option linter.all false
set_option maxRecDepth 100000
set_option maxHeartbeats 4000000
namespace L2
open PySem PySem.Spec PyProof.Rows
section
variable {X : Cx} {pins : List (Addr × Obj)} {σ : List (Option V)} {H : Hp} {s : Shared} {h' : Heap}
theorem Inv.turnedL {t' : Nat} {ch : List Addr} (I : Inv X pins σ H s) (k : ∀ b o, b ∉ ch → s.heap.get? b = some o → h'.get? b = some o) (hf : ∀ b ∈ ch, FpOk X pins H b) :
    Inv X pins σ H { s with heap := h', toks := t' } := by
  have nit : ∀ b u, H b = some u → b ∉ ch := fun b u e z => by rw [(hf b z).1] at e; cases e
  refine I.step (g' := s.gens) (d' := s.drawn) (ch := ch) (fun b hb => ?_) (fun b o _ _ hc e _ => k b o hc e) (fun b o _ _ hc e _ => ⟨o.slots, k b o hc e⟩) (fun _ _ _ _ n => n)
    (fun b o hc e => ⟨o, k b o hc e⟩) (fun _ _ e => e) (fun _ _ _ e => e) (fun b ps e => ⟨#[], by rw [e]; simp⟩) (fun m hm => ?_) (fun b u e => ?_) I.bare
  · obtain ⟨_, h1, _, h2, h3, h4⟩ := hf b hb
    exact ⟨h2, h1, h3, h4⟩
  · obtain ⟨o, es, ep, ho, r⟩ := hm
    exact ⟨o, es, ep, k _ o (fun z => (hf _ z).2.1 rfl) ho, r⟩
  · refine (I.hok b u e).stay (fun c v hc q => k c v ?_ q) (fun _ q => q) fun _ _ q => q
    rcases hc with z | z
    · rw [z]; exact nit b u e
    · exact nit c _ z
theorem Inv.track {T : Addr} {o : HO} (I : Inv X pins σ H s) (hf : FpOk X pins H T) (new : ObjOk X.prog X.w (upd H T o) s.heap T o) : Inv X pins σ (upd H T o) s := by
  obtain ⟨h0, h1, h5, h2, h3, h4⟩ := hf
  have nT : ∀ b u, H b = some u → b ≠ T := fun b u e z => by rw [z, h0] at e; cases e
  refine I.step (h' := s.heap) (g' := s.gens) (d' := s.drawn) (t' := s.toks) (ch := [T]) (fun b hb => ?_) (fun b o _ _ hc e _ => e) (fun b o _ _ hc e _ => ⟨o.slots, e⟩)
    (fun b o hc _ n => by rw [upd_ne (fun z => hc (by simp [z]))]; exact n)
    (fun b o hc e => ⟨o, e⟩) (fun b xs e => by rw [upd_ne (nT _ _ e)]; exact e) (fun b ob u e => by rw [upd_ne (nT _ _ e)]; exact e) (fun b ps e => ⟨#[], by rw [upd_ne (nT _ _ e), e]; simp⟩) (fun m hm => hm) (fun b u e => ?_) I.bare
  · have e : b = T := by simpa using hb
    subst e
    exact ⟨h2, h1, h3, h4⟩
  · by_cases hb : b = T
    · subst hb; rw [upd_same] at e; cases e; exact new
    · rw [upd_ne hb] at e
      exact (I.hok b u e).stay (fun c v _ q => q) (fun c q => by rw [upd_ne (nT _ _ q)]; exact q) fun c xs q => by rw [upd_ne (nT _ _ q)]; exact q
end
section
variable {X : Cx}
noncomputable def rCatA (K : PySem.W.Frag) : R2 := fun x y H Q => ∃ a b xs ys, x = .ref a ∧ y = .ref b ∧ SqT K H a xs ∧ SqT K H b ys ∧ xs.length + ys.length ≤ sizeLine ∧
  (xs = [] → Q (.ref b) H) ∧ (xs ≠ [] → ys = [] → Q (.ref a) H) ∧ (xs ≠ [] → ys ≠ [] → ∀ p, H p = none → Q (.ref p) (upd H p (.tup (xs ++ ys))))
theorem op_catA : OpR X (binaryOp .Add) (rCatA X.K) := by
  intro pins s σ H x y v u Q I rx ry h
  obtain ⟨a, b, xs, ys, rfl, rfl, ha, hb, hz, q0, q1, q2⟩ := h
  cases rx
  cases ry
  by_cases hx : xs = []
  · obtain ⟨its, r1, p1, _⟩ := I.tuple ha
    obtain ⟨its2, r2, p2, _⟩ := I.tuple hb
    obtain ⟨⟨cls, dd, data, sl⟩, ho, hc, n, hd⟩ := id p1
    obtain ⟨⟨cls2, dd2, data2, sl2⟩, ho2, hc2, n2, hd2⟩ := id p2
    simp only at hc hd hc2 hd2
    subst hc hd hc2 hd2
    have hv : its = [] := r1.nil_iff.mpr hx
    exact concat_meets ⟨_, ho, rfl⟩ ⟨_, ho2, rfl⟩ noFill_tuple_add seq_tuple_add PySem.F.slot_tuple_add PySem.F.entry_tuple_add (PySem.F.args_tuple_add_2 _ _)
      (tuple_addW0 a b its.toArray its2.toArray n n2 dd dd2 sl sl2 (by simp [hv])) ⟨ho, ho2, ⟨.ref b, H, I, rfl, q0 hx⟩⟩
  · exact op_catT pins s σ H (.ref a) (.ref b) (.ref a) (.ref b) Q I rfl rfl ⟨a, b, xs, ys, rfl, rfl, ha, hb, hx, hz, q1 hx, q2 hx⟩
theorem eqV_refl : ∀ {x : V}, flatV x = true → eqV x x = true
  | .non, _ => by rfl
  | .bl b, _ => by simp [eqV]
  | .int i, _ => by simp [eqV]
  | .str z, _ => by simp [eqV]
  | .byt _, h => by first | exact absurd (show false = true from h) Bool.false_ne_true | simp [eqV]
  | .flt _, h => by first | exact absurd (show false = true from h) Bool.false_ne_true | simp [eqV]
  | .ref _, h => by first | exact absurd (show false = true from h) Bool.false_ne_true | simp [eqV]
  | .ty _, h => by first | exact absurd (show false = true from h) Bool.false_ne_true | simp [eqV]
theorem same_items {A : Around} {s : Shared} {xs : List V} {its its2 : List Value} (r1 : Vals xs its) (r2 : Vals xs its2) (hf : xs.all flatV = true) :
    ∀ j (h1 : j < its.toArray.size) (h2 : j < its2.toArray.size), SeqAt.EqAt A s its.toArray[j] its2.toArray[j] true := by
  intro j h1 h2
  have hl := r1.length
  have hj : j < xs.length := by simpa [hl] using h1
  have hx : xs[j]? = some xs[j] := by simp [hj]
  obtain ⟨u, hu, ru⟩ := r1.get hx
  obtain ⟨u2, hu2, ru2⟩ := r2.get hx
  have fx : flatV xs[j] = true := List.all_eq_true.mp hf _ (List.getElem_mem hj)
  have e1 : its.toArray[j] = u := by
    have : its[j]? = some its.toArray[j] := by simp at h1; simp [h1]
    rw [hu] at this; exact (Option.some.inj this).symm
  have e2 : its2.toArray[j] = u2 := by
    have : its2[j]? = some its2.toArray[j] := by simp at h2; simp [h2]
    rw [hu2] at this; exact (Option.some.inj this).symm
  rw [e1, e2]
  have := eqAt_V (A := A) (s := s) ru ru2 fx fx
  rw [eqV_refl fx] at this
  exact this
theorem op_eqL_same (hu : X.A.units < cLine) : OpR X (compareOp .Eq) (fun x y H Q => ∃ a b xs, x = .ref a ∧ y = .ref b ∧ SqL X.K H a xs ∧ SqL X.K H b xs ∧ xs.all flatV = true ∧ Q (.bl true) H) := by
  intro pins s σ H x y v u Q I rx ry h
  obtain ⟨a, b, xs, rfl, rfl, ha, hb, hf, q⟩ := h
  cases rx
  cases ry
  obtain ⟨its, r1, p1, _⟩ := I.list ha
  obtain ⟨its2, r2, p2, _⟩ := I.list hb
  have hl1 := r1.length
  have hl2 := r2.length
  refine SeqAt.eq_listAt (e := fun _ => true) p1.isList p2.isList (by simp; omega) hu (same_items r1 r2 hf) ?_
  have e : ((List.range its.toArray.size).all (fun _ => true)) = true := by simp
  rw [e]
  exact ⟨.bl true, H, I, rfl, q⟩
end
end L2
namespace ET
open PySem PySem.Spec
open PySem.AutoSeq1 (wpAny_loadPart')
section
variable {prog : Program} {w : World} {A : Around} {E : Value → Shared → Prop} {s : Shared}
theorem nextOf_tuple_item {it l : Addr} {i : Nat} {items : Array Value} {x : Value} {Q : Value → Shared → Prop} (hit : s.heap.IsTupleIter it l i)
    (hl : s.heap.IsTuple l items) (hx : items[i]? = some x)
    (hQ : ∀ h', h'.IsTupleIter it l (i + 1) → Heap.SameBut it s.heap h' → Q x { s with heap := h' }) :
    wpAny (model prog w) A (Builtin.SmallTypes.nextOf (.ref it)) Q E s := by
  obtain ⟨o, ho, hc, hd⟩ := id hit
  obtain ⟨ol, hol, _, nl, hdl⟩ := hl
  unfold Builtin.SmallTypes.nextOf
  refine wpAny_bind (wpAny_callSpecial?_slot (name := Str.ofString "__next__") hit.typeIs F.slot_tuple_iterator_next
    (wpAny_call_entry F.slot_tuple_iterator_next hit.typeIs F.entry_tuple_iterator_next ?_ (F.args_tuple_iterator_next_1 _)))
  show wpAny _ _ (field (.ref it) 0 >>= _) _ _ s
  refine wpAny_bind (wpAny_field ho hd (x := .ref l) rfl ?_)
  show wpAny _ _ (if (Value.ref l == Value.none) = true then _ else _) _ _ s
  rw [if_neg (show ¬ ((Value.ref l == Value.none) = true) from Bool.false_ne_true)]
  show wpAny _ _ (field (.ref it) 1 >>= _) _ _ s
  refine wpAny_bind (wpAny_field ho hd (x := .int i 0) rfl ?_)
  show wpAny _ _ (seqItems? (.ref l) >>= _) _ _ s
  refine wpAny_bind (wpAny_seqItems hol hdl ?_)
  simp only [Int.toNat_natCast, hx]
  refine wpAny_bind (wpAny_setField ho hd (by simp) (wpAny_pure ⟨x, rfl, wpAny_pure (hQ _ ?_ (Heap.SameBut.update ..))⟩))
  exact ⟨_, Heap.get?_update_self _ ho (Obj.isFreed_of_fields (Obj.data_mapFields hd _)), (Obj.cls_mapFields ..).trans hc, by
    rw [Obj.data_mapFields hd]; simp [rawInt]⟩
theorem nextOf_tuple_end {it l : Addr} {i : Nat} {items : Array Value} {Q : Value → Shared → Prop} (hh : A.handled = none)
    (hit : s.heap.IsTupleIter it l i) (hl : s.heap.IsTuple l items) (hx : items[i]? = none)
    (hE : ∀ h' e, Heap.ExtBut it s.heap h' → (∃ o, h'.get? e = some o ∧ o.cls = .type "StopIteration") → E (.ref e) { s with heap := h' }) :
    wpAny (model prog w) A (Builtin.SmallTypes.nextOf (.ref it)) Q E s := by
  obtain ⟨o, ho, hc, hd⟩ := id hit
  obtain ⟨ol, hol, _, nl, hdl⟩ := hl
  unfold Builtin.SmallTypes.nextOf
  refine wpAny_bind (wpAny_callSpecial?_slot (name := Str.ofString "__next__") hit.typeIs F.slot_tuple_iterator_next
    (wpAny_call_entry F.slot_tuple_iterator_next hit.typeIs F.entry_tuple_iterator_next ?_ (F.args_tuple_iterator_next_1 _)))
  show wpAny _ _ (field (.ref it) 0 >>= _) _ _ s
  refine wpAny_bind (wpAny_field ho hd (x := .ref l) rfl ?_)
  show wpAny _ _ (if (Value.ref l == Value.none) = true then _ else _) _ _ s
  rw [if_neg (show ¬ ((Value.ref l == Value.none) = true) from Bool.false_ne_true)]
  show wpAny _ _ (field (.ref it) 1 >>= _) _ _ s
  refine wpAny_bind (wpAny_field ho hd (x := .int i 0) rfl ?_)
  show wpAny _ _ (seqItems? (.ref l) >>= _) _ _ s
  refine wpAny_bind (wpAny_seqItems hol hdl ?_)
  simp only [Int.toNat_natCast, hx]
  refine wpAny_bind (wpAny_rule (wpAny_bind (wpAny_setField ho hd (by simp) ?_)))
  show wpAny _ _ (newExc (.type "StopIteration") [] >>= _) _ _ _
  refine wpAny_bind ?_
  simp only [newExc, newTuple]
  refine wpAny_bind (wpAny_newObj_type ?_ (by size_fits))
  refine wpAny_bind (m := firstArgMember _ _) (wpAny_of_eq (a := Value.none) (by first | rfl | (simp only [firstArgMember]; rfl)) ?_)
  refine wpAny_newObj_type ?_ (by size_fits)
  simp only [raiseNew]
  refine wpAny_bind (wpAny_handled ?_)
  first | rw [show A.in1.handled = none from hh] | rw [hh]
  refine wpAny_bind (wpAny_pure (wpAny_throw ?_))
  exact hE _ _ (((Heap.SameBut.update ..).extBut.push _).push _) ⟨_, Heap.get?_push_size _ rfl, rfl⟩
end
theorem draws_tuple {prog : Program} {w : World} {A : Around} (hh : A.handled = none) (it l : Addr) (hne : l ≠ it) (items : Array Value) :
    Draws prog w A it [it, l] items.size (fun i v => items[i]? = some v) (fun i h => h.IsTupleIter it l i ∧ h.IsTuple l items) where
  live := fun _ _ st => let ⟨o, ho, _⟩ := st.1; ⟨o, ho⟩
  frame := fun _ _ _ st hk => ⟨let ⟨o, ho, r⟩ := st.1; ⟨o, hk it (by simp) o ho, r⟩, let ⟨o, ho, r⟩ := st.2; ⟨o, hk l (by simp) o ho, r⟩⟩
  item := fun i s Q E hi st hQ => by
    refine nextOf_tuple_item st.1 st.2 (x := items[i]) (by simp [hi]) fun h' hit' hs' => ?_
    exact hQ _ h' s.toks (by simp [hi]) ⟨hit', st.2.extBut hs'.extBut hne⟩ hs'
  done := fun s Q E st hE => nextOf_tuple_end hh st.1 st.2 (by simp) hE
theorem meets_enumerate_newT (l : Addr) (items : Array Value) (n : Nat) (dct : Option Addr) (sl : Array (Option Value)) :
    Meets (Builtin.«enumerate.__new__» ⟨[.type "enumerate", .ref l], []⟩) (fun _ R s => s.heap.get? l = some { cls := .type "tuple", dict := dct, data := .seq items n, slots := sl } ∧
      R (.ok (.ret (.ref (s.heap.push { cls := .type "tuple_iterator", data := .fields #[.ref l, .int 0 0] }).objs.size)))
        { s with heap := (s.heap.push { cls := .type "tuple_iterator", data := .fields #[.ref l, .int 0 0] }).push { cls := .type "enumerate", data := .fields #[.none, .bool false, .ref s.heap.objs.size, rawInt 0, .none, .none] } }) :=
  .of_wp fun prog w A R s h => by
    obtain ⟨hp, g, d, tk, os⟩ := s; obtain ⟨hl, h⟩ := h
    have hsub := sub_enumerate
    have hL : Heap.IsTuple (Shared.heap ⟨hp, g, d, tk, os⟩) l items := ⟨_, hl, rfl, n, rfl⟩
    wp_walk using wpAny_loadPart' hl
    refine wpAny_stack_any fun st => wpAny_pure ?_
    split
    · rename_i c _ _ _ _ _
      cases (c == Value.type "enumerate")
      · wp_walk using wpAny_loadPart' hl, wpAny_pyIter_tuple hL
        exact ⟨_, rfl, h⟩
      · wp_walk using wpAny_loadPart' hl, wpAny_pyIter_tuple hL
        exact ⟨_, rfl, h⟩
    · wp_walk using wpAny_loadPart' hl, wpAny_pyIter_tuple hL
      exact ⟨_, rfl, h⟩
theorem call_enumerate_tuple {prog : Program} {w : World} {A : Around} {E : Value → Shared → Prop} {s : Shared} {l : Addr} {items : Array Value} {Q : Value → Shared → Prop} (hL : s.heap.IsTuple l items)
    (h : ∀ h', IsEnum h' (s.heap.objs.size + 1) s.heap.objs.size 0 .none → h'.IsTupleIter s.heap.objs.size l 0 → h'.objs.size = s.heap.objs.size + 2 →
      (∀ b o, s.heap.get? b = some o → h'.get? b = some o) → Q (.ref (s.heap.objs.size + 1)) { s with heap := h' }) :
    wpAny (model prog w) A (call (.type "enumerate") [.ref l]) Q E s := by
  obtain ⟨⟨c, dct, dt, sl⟩, hl, hc, n, hd⟩ := hL
  replace hc : c = .type "tuple" := hc
  replace hd : dt = .seq items n := hd
  subst hc hd
  refine callType_new F.called_enumerate (by decide) (F.typeCall_enumerate_1 _) (F.newCall_enumerate_1 _) (fun obj => F.args_object_init_2 obj _) F.entry_enumerate_new
    (meets_enumerate_newT l items n dct sl) ⟨hl, ?_⟩
  have hz : (s.heap.push { cls := .type "tuple_iterator", data := .fields #[.ref l, .int 0 0] }).objs.size = s.heap.objs.size + 1 := Heap.size_push ..
  show _ ∧ _
  rw [hz]
  have he : IsEnum ((s.heap.push { cls := .type "tuple_iterator", data := .fields #[.ref l, .int 0 0] }).push
      { cls := .type "enumerate", data := .fields #[.none, .bool false, .ref s.heap.objs.size, rawInt 0, .none, .none] }) (s.heap.objs.size + 1) s.heap.objs.size 0 .none := by
    have := Heap.get?_push_size (s.heap.push { cls := .type "tuple_iterator", data := .fields #[.ref l, .int 0 0] })
      (o := { cls := .type "enumerate", data := .fields #[.none, .bool false, .ref s.heap.objs.size, rawInt 0, .none, .none] }) rfl
    rw [hz] at this; exact this
  refine ⟨⟨_, he, rfl⟩, h _ he ⟨_, Heap.get?_push_of_some _ (Heap.get?_push_size _ rfl), rfl, rfl⟩ (by rw [Heap.size_push, hz]) fun b o x => Heap.get?_push_of_some _ (Heap.get?_push_of_some _ x)⟩
end ET
namespace L2
open PySem PySem.Spec PyProof.Rows
noncomputable def Ite (K : PySem.W.Frag) (a : Addr) : It :=
  ⟨fun i H => ∃ xs x, SqT K H a xs ∧ xs[i]? = some x,
   fun i H x H' => ∃ p v, (∀ xs, SqT K H a xs → xs[i]? = some v) ∧ H p = none ∧ x = .ref p ∧ H' = upd H p (.tup [.int i, v]),
   fun i H => ∃ xs, SqT K H a xs ∧ xs.length = i⟩
theorem turn_enumT {P : Program} {w : World} {K : PySem.W.Frag} {elts : List Expr} {k : Nat} {pos : Pos} (a e it : Addr) (hei : e ≠ it) :
    Turn P w K (.Tuple elts k pos) (Ite K a) [e, it] e (fun i h => (∃ old, IsEnum h e it i old) ∧ h.IsTupleIter it a i) where
  mem := by simp
  obj := fun i h st b hb => by
    obtain ⟨⟨old, he⟩, o, ho, hc, hd⟩ := st
    rcases List.mem_cons.mp hb with z | hb
    · subst z
      exact ⟨_, he, fun v z => by
        have z' : Data.fields _ = Data.cell v := z
        cases z'⟩
    · obtain z := List.mem_singleton.mp hb
      subst z
      exact ⟨o, ho, fun v z => by rw [hd] at z; cases z⟩
  keep := fun i h h' st kk => by
    obtain ⟨⟨old, he⟩, o, ho, r⟩ := st
    exact ⟨⟨old, kk e (by simp) _ he⟩, o, kk it (by simp) o ho, r⟩
  item := by
    intro X hP hw hK hc i pins s σ H E I hf st hg
    subst hP hw hK
    obtain ⟨xs, x, hq, hx⟩ := hg
    obtain ⟨its, rv, p, hz⟩ := I.tuple hq
    obtain ⟨u, hu, ru⟩ := rv.get hx
    obtain ⟨⟨old, he⟩, hit⟩ := st
    have ht : s.heap.IsTuple a its.toArray := p
    have hai : a ≠ it := by
      intro z
      obtain ⟨o, ho, hc1, _⟩ := id hit
      obtain ⟨o2, ho2, hc2, _⟩ := id ht
      rw [z, ho] at ho2
      cases ho2
      rw [hc1] at hc2
      exact absurd hc2 (by decide)
    have hae : a ≠ e := by
      intro z
      obtain ⟨o2, ho2, hc2, _⟩ := id ht
      have he' := he
      unfold IsEnum at he'
      rw [z, he'] at ho2
      cases ho2
      exact absurd (show Value.type "enumerate" = Value.type "tuple" from hc2) (by decide)
    have D := ET.draws_tuple (prog := X.prog) (w := X.w) (A := X.A.in1) (show X.A.in1.handled = none from I.ok.hd hc) it a hai its.toArray
    have hef : e ∉ [it, a] := by
      intro z
      rcases List.mem_cons.mp z with z | z
      · exact hei z
      · exact hae (List.mem_singleton.mp z).symm
    have W := WalksT.enumerateD D e hei hef (by simp)
    have hlt : i < its.toArray.size := by
      have h1 := (List.getElem?_eq_some_iff.mp hu).1
      simpa using h1
    refine W.item i s _ _ hlt ⟨⟨old, he⟩, hit, ht⟩ fun T vals h' tk hP hT hTup hM hk => ?_
    obtain ⟨t, y, hy, rfl⟩ := hP
    have ey : y = u := by
      have : its[i]? = some y := by simpa using hy
      rw [hu] at this
      exact (Option.some.inj this).symm
    subst ey
    have I1 : Inv X pins σ H { s with heap := h', toks := tk } := I.turnedL (ch := [e, it]) hk hf
    have hHT : H T = none := I.hok.fresh hT
    have fT : FpOk X pins H T := I.fpOk hT hHT
    refine ⟨_, rfl, ?_⟩
    refine W.go elts k pos i T { s with heap := h', toks := tk } _ _ hM fun h2 st2 hk2 => ?_
    have I2' := I1.turnedL (h' := h2) (t' := tk) (ch := [e, it]) hk2 hf
    have I2 : Inv X pins σ H { s with heap := h2, toks := tk } := I2'
    have hT2 : h2.IsTuple T #[.int i t, y] := by
      obtain ⟨o, ho, r⟩ := hTup
      exact ⟨o, hk2 T o (W.apart i T h' hM) ho, r⟩
    have I3 : Inv X pins σ (upd H T (.tup [.int i, x])) { s with heap := h2, toks := tk } :=
      I2.track fT ⟨by show 2 ≤ sizeLine; decide, [.int i t, y], .cons ⟨t, rfl⟩ (.cons ru .nil), hT2⟩
    refine ⟨.ref T, _, I3, rfl, ⟨T, x, fun ys hy' => by rw [I.tuple_inj hy' hq]; exact hx, hHT, rfl, rfl⟩, ⟨by simpa using st2.1, st2.2.1⟩, fun b hb => ?_⟩
    rw [upd_ne (fun z => W.apart i T h' hM (by rw [← z]; exact hb))]
    exact (hf b hb).1
  done := by
    intro X hP hw hK hc i pins s σ H E I hf st hg
    subst hP hw hK
    obtain ⟨xs, hq, hx⟩ := hg
    obtain ⟨its, rv, p, hz⟩ := I.tuple hq
    obtain ⟨⟨old, he⟩, hit⟩ := st
    have ht : s.heap.IsTuple a its.toArray := p
    have hai : a ≠ it := by
      intro z
      obtain ⟨o, ho, hc1, _⟩ := id hit
      obtain ⟨o2, ho2, hc2, _⟩ := id ht
      rw [z, ho] at ho2
      cases ho2
      rw [hc1] at hc2
      exact absurd hc2 (by decide)
    have hae : a ≠ e := by
      intro z
      obtain ⟨o2, ho2, hc2, _⟩ := id ht
      have he' := he
      unfold IsEnum at he'
      rw [z, he'] at ho2
      cases ho2
      exact absurd (show Value.type "enumerate" = Value.type "tuple" from hc2) (by decide)
    have D := ET.draws_tuple (prog := X.prog) (w := X.w) (A := X.A.in1) (show X.A.in1.handled = none from I.ok.hd hc) it a hai its.toArray
    have hef : e ∉ [it, a] := by
      intro z
      rcases List.mem_cons.mp z with z | z
      · exact hei z
      · exact hae (List.mem_singleton.mp z).symm
    have W := WalksT.enumerateD D e hei hef (by simp)
    have hl := rv.length
    have hn : i = its.toArray.size := by simp; omega
    refine W.done s _ _ ⟨⟨old, by rw [← hn]; exact he⟩, by rw [← hn]; exact hit, ht⟩ fun h' tk hk => ⟨rfl, ?_⟩
    exact I.turnedL (ch := [e, it]) hk hf
  self := fun _ _ _ _ _ st h => by
    obtain ⟨⟨old, he⟩, _⟩ := st
    exact wpAny_pyIter_enum he h
section
variable {X : Cx} {elts : List Expr} {k : Nat} {tpos : Pos}
noncomputable def iEnum (K : PySem.W.Frag) (ta : TA) : TI := fun σ H R => ta σ H fun vs H1 => ∃ a, vs = [.ref a] ∧ (∃ xs, SqT K H1 a xs) ∧ R (Ite K a) H1
theorem pi_enumT {a : Expr} {ta : TA} {p pos : Pos} (hg : Gl X "enumerate") (hm : X.mg "enumerate" = none) (ha : PA X [a] ta) (hs : starEach [a] X.env = [(false, eval a X.env)] := by rfl) :
    PI X (.Tuple elts k tpos) (.Call (.Name "enumerate" p) [a] [] pos) (iEnum X.K ta) := by
  intro pins s σ H R I h
  refine Call_ (ld_blt I hg hm boot_enumerate (PyProof.Rows.callWith_type1 (thn (ha pos pins s σ H _ I h) fun us s1 ⟨vs, H1, I1, r1, q1⟩ => ?_) hs rfl))
  obtain ⟨a, e, ⟨xs, hq⟩, q⟩ := q1
  subst e
  cases r1 with
  | cons r rr =>
    cases rr
    cases r
    obtain ⟨its, rv, p, hz⟩ := I1.tuple hq
    refine ET.call_enumerate_tuple (show s1.heap.IsTuple a its.toArray from p) fun h' he hit hsz hk => ?_
    have I2 : Inv X pins σ H1 { s1 with heap := h' } := I1.kept (t' := s1.toks) hk
    refine wpAny_pyIter_enum he ?_
    refine ⟨s1.heap.objs.size + 1, [s1.heap.objs.size + 1, s1.heap.objs.size], _, _, H1, rfl, I2, turn_enumT a (s1.heap.objs.size + 1) s1.heap.objs.size (Nat.succ_ne_self _), ⟨⟨_, he⟩, hit⟩, fun b hb => ?_, q⟩
    have hb' : s1.heap.objs.size ≤ b := by
      rcases List.mem_cons.mp hb with z | z
      · rw [z]; exact Nat.le_succ _
      · rw [List.mem_singleton.mp z]; exact Nat.le_refl _
    exact I1.fpOk hb' (I1.hok.fresh hb')
end
theorem for_enum {K : PySem.W.Frag} {a : Addr} {xs : List V} {g : TG} {tb : TS} {D : Ends} {σ : St} {H : Hp} (Pv : Nat → St → Hp → Prop) (h0 : Pv 0 σ H) (hl : ∀ i σ H, i ≤ xs.length → Pv i σ H → SqT K H a xs)
    (hs : ∀ i x p σ H, xs[i]? = some x → Pv i σ H → H p = none → g (.ref p) σ (upd H p (.tup [.int i, x])) fun σ2 H2 => tb { D with nx := Pv (i + 1), ct := Pv (i + 1), bk := D.nx } σ2 H2) (hd : ∀ σ H, Pv xs.length σ H → D.nx σ H) :
    ∃ W : Nat → Nat → St → Hp → Prop, (∃ m, W 0 m σ H) ∧ ∀ i m σ H, W i m σ H →
      ((Ite K a).stop i H ∧ D.nx σ H) ∨ ((Ite K a).go i H ∧ ∃ N : St → Hp → Prop, (∀ σ' H', N σ' H' → ∃ m', m' < m ∧ W (i + 1) m' σ' H') ∧ ∀ x H', (Ite K a).yld i H x H' → g x σ H' fun σ2 H2 => tb { D with nx := N, ct := N, bk := D.nx } σ2 H2) := by
  refine ⟨fun i m σ H => m = xs.length - i ∧ i ≤ xs.length ∧ Pv i σ H, ⟨xs.length, by simp, Nat.zero_le _, h0⟩, ?_⟩
  rintro i m σ H ⟨rfl, hi, p⟩
  have q := hl i σ H hi p
  by_cases hlt : i < xs.length
  · refine .inr ⟨⟨xs, xs[i], q, by simp [hlt]⟩, Pv (i + 1), fun σ' H' p' => ⟨xs.length - (i + 1), by omega, rfl, hlt, p'⟩, fun x H' y => ?_⟩
    obtain ⟨pp, v, y, hn, e1, e2⟩ := y
    subst e1 e2
    exact hs i v pp σ _ (y xs q) p hn
  · have e : i = xs.length := by omega
    subst e
    exact .inl ⟨⟨xs, q, rfl⟩, hd σ H p⟩
end L2
set_option Elab.async false
set_option linter.all false
set_option maxRecDepth 100000
set_option maxHeartbeats 4000000
namespace L2
open PySem PySem.Spec PyProof.Rows
structure Cl (P : Program) (w : World) (K : PySem.W.Frag) (mg : Str → Option Value) (base : Heap) (k : Nat) (x : Str) (ps : List Str) (sp : Sp) : Prop where
  ex : ∃ f fd, FnOk P w K mg base CX0 k f fd ps sp ∧ mg x = some (.ref f) ∧ PySem.W.keepIn K (.ref f) = true ∧ Binds K fd ps []
theorem pe_fn {X : Cx} {j k : Nat} {x : Str} {ps : List Str} {sp : Sp} {e : Expr} {es : List Expr} {t : TA} {p pos : Pos} (C : Cl X.prog X.w X.K X.mg X.base j x ps sp) (hr : Room k X.A) (hg : Gl X x) (ha : PA X (e :: es) t) (hjk : j ≤ k := by decide)
    (hdb : (x == ("__debug__" : Str)) = false := by decide) (he : starEach (e :: es) X.env = (false, eval e X.env) :: starEach es X.env := by rfl) (hpl : (backTo pos (starEach es X.env)).any (·.1) = false := by rfl) :
    PE X (.Call (.Name x p) (e :: es) [] pos) (tCall sp [] E0 t) := by
  obtain ⟨f, fd, F, hm, hk, hb⟩ := C.ex
  exact pe_call F (hr.mono hjk) hg hm hk hb .nil pass0 ha hdb he hpl
noncomputable def HasDef (K : PySem.W.Frag) (mg : Str → Option Value) (x : Str) (st : Stmt) : Prop := ∃ f fd, Fun K x x st f fd ∧ mg x = some (.ref f)
theorem hasDef_mk {K : PySem.W.Frag} {mg : Str → Option Value} {h : Heap} {x : Str} {st : Stmt} {f : Addr} {oc : Value} {od an : Option Addr} {osl : Array (Option Value)} {kV doc pm cdv ct : Value} (X : K.In h) (G : h.Ns mainGlobals mg)
    (a : PySem.W.nsIn K mainGlobals x = some (some (.ref f))) (l : K.lookup f = some ⟨oc, od, .func (PySem.W.fnOf x x (defArgs st) (defBody st) (defScope st) .none kV doc pm an cdv ct), osl⟩)
    (c : PySem.W.codeIn K cdv x = true) (k : PySem.W.keepIn K (.ref f) = true) : HasDef K mg x st :=
  ⟨f, _, fun_mk l c k, PySem.W.mg_of X G a⟩
theorem Cl.of {P : Program} {w : World} {K : PySem.W.Frag} {mg : Str → Option Value} {base : Heap} {x : Str} {st : Stmt} {N ps : List Str} {k : Nat} {sp : Sp} (T : HasDef K mg x st) (S : FnScope N ps (defScope st)) (len : ∀ vs H Q E, sp vs H Q E → vs.length = ps.length)
    (hb : ∀ (kV doc pm : Value) (an : Option Addr) (cdv ct : Value) (us : List Value), us.length = ps.length → bindArgs (PySem.W.fnOf x x (defArgs st) (defBody st) (defScope st) .none kV doc pm an cdv ct) ⟨us, []⟩ = pure (ps.zip us))
    (hbody : ∀ (f : Addr) (cdv : Value) (A : Around) (outer : List Env) (s : Shared) (H : Hp) (vs : List V) (Q : VK) (E : XK), Room k (A.deeper (envOfC x (defScope st) s.heap.objs.size f cdv)) → sp vs H Q E →
      ∃ t, PSs (cxOf CX0 P w K mg base N x (defScope st) f cdv A outer s H E).nox (defBody st) t ∧ t { nx := fun _ H' => Q .non H', rt := Q } (start N vs) H) : Cl P w K mg base (k + 1) x ps sp := by
  obtain ⟨f, fd, F, m⟩ := T
  exact ⟨f, fd, F.ok S len (fun cdv A outer s H vs Q E => hbody f cdv A outer s H vs Q E), m, F.kp, F.binds hb⟩
noncomputable def Tups (H H' : Hp) : Prop := ∀ b xs, H b = some (.tup xs) → H' b = some (.tup xs)
section
variable {H H1 H2 : Hp} {l p : Addr} {o : HO} {xs ys : List V}
theorem Same.tups (e : Same H H1) : Tups H H1 := fun b xs q => e b _ q
theorem Tups.refl (H : Hp) : Tups H H := fun _ _ q => q
theorem Tups.trans (a : Tups H H1) (b : Tups H1 H2) : Tups H H2 := fun c xs q => b c xs (a c xs q)
theorem Tups.lst (h : H l = some (.lst xs)) : Tups H (upd H l (.lst ys)) := fun b zs q => by
  rw [upd_ne (ne_of q h (by intro z; cases z))]; exact q
theorem Tups.new (h : H p = none) : Tups H (upd H p o) := fun b zs q => by
  rw [upd_ne (ne_of_none q h)]; exact q
theorem Same.put (s : Same H H1) (h : H l = none) : Same H (upd H1 l o) := fun b u q => by
  rw [upd_ne (ne_of_none q h)]; exact s b u q
theorem Same.new (s : Same H H1) (h : H1 p = none) : Same H (upd H1 p o) := s.put (s.free h)
theorem upd_keep {u : HO} (h : H l = some u) (hp : H p = none) : upd H p o l = some u := by
  rw [upd_ne (ne_of_none h hp)]; exact h
end
theorem atI_getD {α : Type} (xs : List α) (d : α) {i : Int} (h0 : 0 ≤ i) (h1 : i < (xs.length : Int)) : atI xs i = some (xs.getD i.toNat d) := by
  have e : i = ((i.toNat : Nat) : Int) := by omega
  have hl : i.toNat < xs.length := by omega
  have hx : xs[i.toNat]? = some (xs.getD i.toNat d) := by
    rw [List.getD_eq_getElem?_getD]
    simp [hl]
  have := atI_nat hx
  rw [← e] at this
  exact this
theorem atI_mem {α : Type} (xs : List α) {i : Int} (h0 : 0 ≤ i) (h1 : i < (xs.length : Int)) : ∃ v, v ∈ xs ∧ atI xs i = some v := by
  have e : i = ((i.toNat : Nat) : Int) := by omega
  have hl : i.toNat < xs.length := by omega
  have hx : xs[i.toNat]? = some xs[i.toNat] := by simp [hl]
  refine ⟨xs[i.toNat], List.getElem_mem hl, ?_⟩
  have := atI_nat hx
  rw [← e] at this
  exact this
theorem atI_menu (ys : List Str) {i : Int} (h0 : 0 ≤ i) (h1 : i < (ys.length : Int)) : ∃ y, y ∈ ys ∧ atI (ys.map V.str) i = some (.str y) := by
  obtain ⟨v, hv, e⟩ := atI_mem (ys.map V.str) h0 (by simpa using h1)
  obtain ⟨y, hy, rfl⟩ := List.mem_map.mp hv
  exact ⟨y, hy, e⟩
theorem atI_map {α : Type} (f : α → V) (xs : List α) (d : α) {i : Int} (h0 : 0 ≤ i) (h1 : i < (xs.length : Int)) : atI (xs.map f) i = some (f (xs.getD i.toNat d)) := by
  have := atI_getD (xs.map f) (f d) h0 (by simpa using h1)
  rw [this, List.getD_eq_getElem?_getD, List.getElem?_map, List.getD_eq_getElem?_getD]
  have hl : i.toNat < xs.length := by omega
  simp [hl]
theorem iteSE {x : Str} {A B : Prop} (h : A) : if decide (V.str x = V.str x) = true then A else B := by
  rw [if_pos (decide_eq_true rfl)]; exact h
theorem iteSN {x y : Str} {A B : Prop} (e : ¬ x = y) (h : B) : if decide (V.str x = V.str y) = true then A else B := by
  rw [if_neg (by rw [decide_eq_false (fun q => e (V.str.inj q))]; exact Bool.false_ne_true)]; exact h
theorem ite2I {i j : Int} {A B : Prop} (h1 : i = j → A) (h2 : ¬ i = j → B) : if decide (V.int i = V.int j) = true then A else B :=
  ite2 (fun h => h1 (V.int.inj (of_decide_eq_true h))) fun h => h2 fun e => h (decide_eq_true (congrArg V.int e))
noncomputable def isLet (c : Nat) : Bool := decide (97 ≤ c) && decide (c ≤ 122)
noncomputable def isFig (c : Nat) : Bool := decide (48 ≤ c) && decide (c ≤ 57)
noncomputable def isSg (c : Nat) : Bool := isLet c || isFig c
noncomputable def isNm : List Nat → Bool
  | [] => false
  | c :: r => isLet c && r.all isSg && decide (r.length ≤ 7)
noncomputable def NameOk (x : Str) : Prop := isNm x.cps.toList = true
noncomputable instance (x : Str) : Decidable (NameOk x) := inferInstanceAs (Decidable (_ = true))
inductive Th where
  | num (n : Int)
  | nam (x : Str)
noncomputable def thV : Th → V
  | .num n => .int n
  | .nam x => .str x
noncomputable def ThOk : Th → Prop
  | .num n => 0 ≤ n ∧ n < 10 ^ 60
  | .nam x => NameOk x
noncomputable def TermAt (H : Hp) (v : V) (t : Int × Th) : Prop := ∃ p, v = .ref p ∧ H p = some (.tup [.int t.1, thV t.2]) ∧ ThOk t.2
noncomputable abbrev Terms (H : Hp) : List V → List (Int × Th) → Prop := Paired (TermAt H)
theorem Paired.get? {α β : Type} {F : α → β → Prop} : ∀ {xs : List α} {ys : List β} {i : Nat} {x : α}, Paired F xs ys → xs[i]? = some x → ∃ y, ys[i]? = some y ∧ F x y
  | _, _, _, _, .nil, e => by simp at e
  | _, _, 0, _, .cons r _, e => by simp at e; subst e; exact ⟨_, rfl, r⟩
  | _, _, i + 1, x, .cons _ t, e => by
    obtain ⟨u, h1, h2⟩ := Paired.get? (i := i) (x := x) t (by simpa using e)
    exact ⟨u, by simpa using h1, h2⟩
theorem Paired.get?' {α β : Type} {F : α → β → Prop} : ∀ {xs : List α} {ys : List β} {i : Nat} {y : β}, Paired F xs ys → ys[i]? = some y → ∃ x, xs[i]? = some x ∧ F x y
  | _, _, _, _, .nil, e => by simp at e
  | _, _, 0, _, .cons r _, e => by simp at e; subst e; exact ⟨_, rfl, r⟩
  | _, _, i + 1, x, .cons _ t, e => by
    obtain ⟨u, h1, h2⟩ := Paired.get?' (i := i) (y := x) t (by simpa using e)
    exact ⟨u, by simpa using h1, h2⟩
theorem TermAt.mono {H H' : Hp} (s : Tups H H') {v : V} {t : Int × Th} (h : TermAt H v t) : TermAt H' v t := by
  obtain ⟨p, e, h, o⟩ := h
  exact ⟨p, e, s p _ h, o⟩
theorem Terms.mono {H H' : Hp} (s : Tups H H') {vs : List V} {ts : List (Int × Th)} (h : Terms H vs ts) : Terms H' vs ts := Paired.mapP h fun _ _ q => q.mono s
structure TermsAt (H : Hp) (t : Addr) (ts : List (Int × Th)) : Prop where
  ex : ∃ vs, H t = some (.tup vs) ∧ Terms H vs ts
  lo : 1 ≤ ts.length
  hi : ts.length ≤ 6
theorem TermsAt.mono {H H' : Hp} (s : Tups H H') {t : Addr} {ts : List (Int × Th)} (h : TermsAt H t ts) : TermsAt H' t ts := by
  obtain ⟨⟨vs, h1, h2⟩, lo, hi⟩ := h
  exact ⟨⟨vs, s t _ h1, h2.mono s⟩, lo, hi⟩
theorem take_succ_get {α : Type} {l : List α} {i : Nat} {x : α} (h : l[i]? = some x) : l.take (i + 1) = l.take i ++ [x] := by
  rw [List.take_succ, h]; rfl
end L2
set_option Elab.async false
set_option linter.all false
set_option maxRecDepth 100000
set_option maxHeartbeats 4000000
namespace L2
open PySem PySem.Spec PyProof.Rows
theorem strsAre_of {ys : List Str} : ∀ {us : List Value}, Vals (ys.map V.str) us → StrsAre us ys := by
  induction ys with
  | nil => intro us r; cases r; exact .nil
  | cons y r ih =>
    intro us h
    cases h with
    | cons h1 h2 =>
      obtain ⟨t, rfl⟩ := h1
      exact .cons y t (ih h2)
section
variable {X : Cx}
theorem mt_join : MtR X "str.join" (fun x vs H Q => ∃ sep p ys, x = .str sep ∧ vs = [.ref p] ∧ (SqT X.K H p (ys.map V.str) ∨ SqL X.K H p (ys.map V.str)) ∧ sep.length ≤ 16 ∧ (ys.map (·.length)).sum + ys.length ≤ 1048576 ∧ Q (.str (Str.join sep ys)) H) := by
  intro pins s σ H x xs v us Q I rx rs h
  obtain ⟨sep, p, ys, rfl, rfl, hq, hs, hw, q⟩ := h
  obtain ⟨t, rfl⟩ := rx
  obtain ⟨u, rfl, ru⟩ := vals1 rs
  cases ru
  rcases hq with hq | hq
  · obtain ⟨its, r', pl, hz⟩ := I.tuple hq
    exact join_tupleW pl (strsAre_of r') hs hw fun t' k => ⟨.str (Txt.join sep ys), H, I.tok _, ⟨_, rfl⟩, by rw [show Txt.join sep ys = Str.join sep ys from StrLaws.glued_eq_join sep ys]; exact q⟩
  · obtain ⟨its, r', pl, hz⟩ := I.list hq
    exact join_listW pl.isList (strsAre_of r') hs hw fun t' k => ⟨.str (Txt.join sep ys), H, I.tok _, ⟨_, rfl⟩, by rw [show Txt.join sep ys = Str.join sep ys from StrLaws.glued_eq_join sep ys]; exact q⟩
end
theorem str_ext {x y : Str} (h : x.cps.toList = y.cps.toList) : x = y := by
  obtain ⟨⟨a⟩⟩ := x
  obtain ⟨⟨b⟩⟩ := y
  have h' : a = b := h
  rw [h']
section
variable {X : Cx}
theorem log_ok {n : Int} (h1 : 0 ≤ n) (h2 : n < 10 ^ 60) : n.natAbs.log2 < 1920 := by
  have h3 : n.natAbs < 2 ^ 1920 := by
    have : n.natAbs < 10 ^ 60 := by omega
    exact Nat.lt_of_lt_of_le this (by decide)
  by_cases hz : n.natAbs = 0
  · rw [hz]; decide
  · exact (Nat.log2_lt hz).mpr h3
end
end L2
set_option Elab.async false
set_option linter.all false
set_option maxRecDepth 100000
set_option maxHeartbeats 4000000
namespace L2
open PySem PySem.Spec PyProof.Rows
noncomputable def closL (cells : List (Str × Addr)) : List (Str × NameKind) → List (Str × Addr) → List (Str × Addr)
  | [], cs => cs
  | (n, k) :: r, cs => closL cells r (if k == .free then (n, (cells.lookup n).getD 0) :: cs else cs)
theorem closL_pure {cells : List (Str × Addr)} {env : Env} (he : env.cells = cells) : ∀ (l : List (Str × NameKind)) (cs : List (Str × Addr)), (∀ y ∈ l, y.2 = .free → ∃ c, cells.lookup y.1 = some c) →
    (forIn l cs fun p cs => (do if p.2 == .free then (do let a ← cellOf env p.1; pure (ForInStep.yield ((p.1, a) :: cs))) else pure (ForInStep.yield cs) : Sem (ForInStep (List (Str × Addr))))) = pure (closL cells l cs) := by
  intro l
  induction l with
  | nil => intro cs _; rfl
  | cons p r ih =>
    intro cs h
    obtain ⟨n, k⟩ := p
    rw [List.forIn_cons]
    have hr : ∀ y ∈ r, y.2 = .free → ∃ c, cells.lookup y.1 = some c := fun y hy => h y (List.mem_cons_of_mem _ hy)
    by_cases hk : k = .free
    · subst hk
      obtain ⟨c, hc⟩ := h (n, .free) List.mem_cons_self rfl
      have hc' : env.cells.lookup n = some c := by rw [he]; exact hc
      have e : cellOf env n = pure c := by unfold cellOf; rw [hc']
      simp only [beq_self_eq_true, if_true, e, pure_bind]
      rw [ih _ hr]
      unfold closL
      rw [if_pos (by simp), show (cells.lookup n).getD 0 = c by rw [show cells.lookup n = some c from hc]; rfl]
      conv => rhs; unfold closL
    · have hb : (k == NameKind.free) = false := by simpa using hk
      simp only [hb, Bool.false_eq_true, if_false, pure_bind]
      rw [ih _ hr]
      conv => rhs; unfold closL
      rw [if_neg (by rw [hb]; exact Bool.false_ne_true)]
theorem closL_lookup {cells : List (Str × Addr)} {x : Str} {c : Addr} : ∀ (l : List (Str × NameKind)) (cs : List (Str × Addr)), (∀ y ∈ l, y.2 = .free → ∃ c, cells.lookup y.1 = some c) → (closL cells l cs).lookup x = some c → cells.lookup x = some c ∨ cs.lookup x = some c
  | [], cs, _, h => .inr h
  | (n, k) :: r, cs, hy, h => by
    unfold closL at h
    rcases closL_lookup r _ (fun y q => hy y (List.mem_cons_of_mem _ q)) h with h | h
    · exact .inl h
    · by_cases hk : k = .free
      · subst hk
        obtain ⟨c', hc⟩ := hy (n, .free) List.mem_cons_self rfl
        have hc : cells.lookup n = some c' := hc
        rw [if_pos (by simp), List.lookup_cons] at h
        split at h
        · rename_i e
          have e' : x = n := by simpa using e
          subst e'
          rw [hc] at h
          cases h
          exact .inl hc
        · exact .inr h
      · rw [if_neg (by simpa using hk)] at h
        exact .inr h
theorem closL_keep {cells : List (Str × Addr)} {x : Str} : ∀ (l : List (Str × NameKind)) (cs : List (Str × Addr)), (∃ c, cs.lookup x = some c) → ∃ c, (closL cells l cs).lookup x = some c
  | [], _, h => h
  | (n, k) :: r, cs, h => by
    unfold closL
    refine closL_keep r _ ?_
    split
    · rw [List.lookup_cons]
      split
      · exact ⟨_, rfl⟩
      · exact h
    · exact h
theorem closL_has {cells : List (Str × Addr)} {x : Str} : ∀ (l : List (Str × NameKind)) (cs : List (Str × Addr)), (x, NameKind.free) ∈ l → ∃ c, (closL cells l cs).lookup x = some c
  | (n, k) :: r, cs, h => by
    unfold closL
    rcases List.mem_cons.mp h with e | h
    · cases e
      refine closL_keep r _ ?_
      rw [if_pos (by simp), List.lookup_cons]
      simp
    · exact closL_has r _ h
theorem closure_pure {sc : Scope} {env : Env} (h : ∀ y ∈ sc.names, y.2 = .free → ∃ c, env.cells.lookup y.1 = some c) : closureFor sc env = pure (closL env.cells sc.names []) := by
  have := closL_pure (env := env) rfl sc.names [] h
  unfold closureFor
  simp only [bind_pure]
  exact this
theorem relabel_free {env : Env} {x : Str} : ∀ {names : List (Str × NameKind)}, names.lookup x = some .free →
    (names.map fun (n, k) => if (k == NameKind.free && env.scope.kind == .function && env.kindOf n == some .cell) then (n, NameKind.cell) else (n, k)).lookup x = some .cell ∨
    (names.map fun (n, k) => if (k == NameKind.free && env.scope.kind == .function && env.kindOf n == some .cell) then (n, NameKind.cell) else (n, k)).lookup x = some .free
  | [], h => by simp at h
  | (n, k) :: r, h => by
    have ih := @relabel_free env x r
    simp only [List.map_cons]
    by_cases hc : (k == NameKind.free && env.scope.kind == .function && env.kindOf n == some .cell) = true
    · rw [if_pos hc]
      simp only [List.lookup_cons] at h ⊢
      cases hx : x == n with
      | true => exact .inl rfl
      | false => simp only [hx] at h ⊢; exact ih h
    · rw [if_neg hc]
      simp only [List.lookup_cons] at h ⊢
      cases hx : x == n with
      | true => simp only [hx] at h ⊢; exact .inr h
      | false => simp only [hx] at h ⊢; exact ih h
theorem relabel_back {env : Env} {x : Str} : ∀ {names : List (Str × NameKind)},
    (names.map fun (n, k) => if (k == NameKind.free && env.scope.kind == .function && env.kindOf n == some .cell) then (n, NameKind.cell) else (n, k)).lookup x = some .cell ∨
    (names.map fun (n, k) => if (k == NameKind.free && env.scope.kind == .function && env.kindOf n == some .cell) then (n, NameKind.cell) else (n, k)).lookup x = some .free →
    (x, NameKind.free) ∈ names ∨ (x, NameKind.cell) ∈ names
  | [], h => by simp at h
  | (n, k) :: r, h => by
    have ih := @relabel_back env x r
    simp only [List.map_cons] at h
    have tl : (x, NameKind.free) ∈ r ∨ (x, NameKind.cell) ∈ r → (x, NameKind.free) ∈ (n, k) :: r ∨ (x, NameKind.cell) ∈ (n, k) :: r := fun q => q.imp (List.mem_cons_of_mem _) (List.mem_cons_of_mem _)
    by_cases hc : (k == NameKind.free && env.scope.kind == .function && env.kindOf n == some .cell) = true
    · rw [if_pos hc] at h
      have hk : k = .free := by
        simp only [Bool.and_eq_true] at hc
        simpa using hc.1.1
      simp only [List.lookup_cons] at h
      cases hx : x == n with
      | true =>
        have e : x = n := by simpa using hx
        subst e hk
        exact .inl List.mem_cons_self
      | false => simp only [hx] at h; exact tl (ih h)
    · rw [if_neg hc] at h
      simp only [List.lookup_cons] at h
      cases hx : x == n with
      | true =>
        have e : x = n := by simpa using hx
        subst e
        simp only [hx] at h
        rcases h with h | h
        · cases h; exact .inr List.mem_cons_self
        · cases h; exact .inl List.mem_cons_self
      | false => simp only [hx] at h; exact tl (ih h)
structure CompScope (osc : Scope) (N : List Str) (sc : Scope) (M : List Str) (ρ : List (Option Nat)) : Prop where
  kind : sc.kind = .function
  nocell : ∀ y ∈ sc.names, y.2 ≠ .cell
  own : ∀ y ∈ sc.names, y.2 = .local → sc.names.lookup y.1 = some .local
  fre : ∀ y ∈ sc.names, y.2 = .free → osc.names.lookup y.1 = some .cell ∨ osc.names.lookup y.1 = some .free
  len : ρ.length = M.length
  ren : ∀ p ∈ ρ.zip M, (match p.1 with | none => true | some i => decide (N[i]? = some p.2 ∧ sc.names.lookup p.2 = some .free)) = true
  nd : M.Nodup
noncomputable def subS (ρ : List (Option Nat)) (σ : St) : St := ρ.map fun o => match o with | none => none | some i => (σ[i]?).join
noncomputable def cxComp (X : Cx) (sc : Scope) (cl : List (Str × Addr)) (C : Addr) (M : List Str) (s : Shared) (H : Hp) (fp : List Addr) (xe : Value → Shared → Prop) : Cx where
  prog := X.prog
  w := X.w
  K := X.K
  mg := X.mg
  base := X.base
  A := X.A
  N := M
  s₀ := s
  H₀ := H
  env := compEnvC sc cl C X.env
  outer := X.stack
  stack := X.stack
  ex := fp
  fn := fun _ => false
  calm := X.calm
  pn := []
  xe := xe
theorem comp_loop {P : Program} {w : World} {A : Around} {R : Result → Shared → Prop} {s : Shared} {elt tg iter : Expr} {ifs : List Expr} {sc : Scope} {pos : Pos} {it acc : Value} {env : Env} (J : Nat → Shared → Prop)
    (turn : ∀ n s, J n s → wpAny (model P w) A (pyNext it) (fun r s1 => match r with
      | none => R (.ok .next) s1
      | some v => wpAny (model P w) A (letOwnedTupleGo tg it v) (fun _ s2 => wpAny (model P w) A (assign tg env v) (fun _ s3 =>
          wpAny (model P w) A (forIn ifs true fun c r => if r = true then do let ok ← isTrue c env (eval c env); pure (ForInStep.yield ok) else pure (ForInStep.yield r)) (fun ok s4 =>
            if ok = true then wpAny (model P w) A (eval elt env) (fun x s5 => wpAny (model P w) A (call (.builtin "list.append") [acc, x]) (fun _ s6 => ∃ m, m < n ∧ J m s6) (notedBy (model P w) A env fun e s' => R (.error e) s') s5)
              (notedBy (model P w) A env fun e s' => R (.error e) s') s4
            else ∃ m, m < n ∧ J m s4) (notedBy (model P w) A env fun e s' => R (.error e) s') s3) (notedBy (model P w) A env fun e s' => R (.error e) s') s2) (notedBy (model P w) A env fun e s' => R (.error e) s') s1)
      (notedBy (model P w) A env fun e s' => R (.error e) s') s)
    (n : Nat) (h : J n s) : codeAny (model P w) A (.compLoop (.ListComp elt [⟨tg, iter, ifs, 0⟩] sc pos) 0 it acc env) R s := by
  refine codeAny_loop rfl J (fun n s hJ => ?_) n h
  show wpAny (model P w) A ((compTurn (.ListComp elt [⟨tg, iter, ifs, 0⟩] sc pos) 0 it acc env).onRaise fun x => do noteFrame x env; theTreesLotGoes x) _ _ s
  refine wpAny_noted ?_
  rw [compTurn_list]
  refine wpAny_bind (wpAny_standAt (wpAny_bind (thn (turn n s hJ) fun r s1 h1 => ?_)))
  cases r with
  | none => exact wpAny_pure h1
  | some v =>
    refine wpAny_bind (thn h1 fun _ s2 h2 => wpAny_bind (thn h2 fun _ s3 h3 => wpAny_bind (thn h3 fun ok s4 h4 => ?_)))
    cases ok with
    | false => exact wpAny_pure ⟨rfl, h4⟩
    | true => exact wpAny_bind (wpAny_bind (thn h4 fun x s5 h5 => wpAny_bind (thn h5 fun _ s6 h6 => wpAny_pure (wpAny_pure ⟨rfl, h6⟩))))
noncomputable def PTs (X : Cx) (ifs : List Expr) (t : TT) : Prop :=
  ∀ (pins : List (Addr × Obj)) (s : Shared) (σ : St) (H : Hp) (Q : Bool → Hp → Prop), Inv X pins σ H s → t σ H Q →
    wpAny (model X.prog X.w) X.A (forIn ifs true fun c r => if r = true then do let ok ← isTrue c X.env (eval c X.env); pure (ForInStep.yield ok) else pure (ForInStep.yield r)) (TP X pins σ Q) X.xe s
noncomputable def tNoTest : TT := fun _ H Q => Q true H
theorem nt {σ : St} {H : Hp} {A B : Hp → Prop} (h : A H) : tNoTest σ H (fun b H5 => if b = true then A H5 else B H5) := by
  show if true = true then A H else B H
  exact iteT h
theorem ntG {i : Nat} {v : V} {σ : St} {H : Hp} {A B : St → Hp → Prop} (h : A (σ.set i (some v)) H) : gName i v σ H (fun σ4 H4 => tNoTest σ4 H4 fun b H5 => if b = true then A σ4 H5 else B σ4 H5) := by
  show if true = true then A (σ.set i (some v)) H else B (σ.set i (some v)) H
  exact iteT h
theorem pts_nil {X : Cx} : PTs X [] tNoTest := fun _ _ _ H _ I h => wpAny_tests_nil ⟨H, I, h⟩
theorem pts_one {X : Cx} {c : Expr} {t : TT} (h : PT X c t) : PTs X [c] t := fun pins s σ H Q I q => wpAny_tests_one (h pins s σ H Q I q)
noncomputable def tComp (wi : TI) (ρ : List (Option Nat)) (g : TG) (tt : TT) (te : TE) : TE := fun σ H Q => wi σ H fun J H1 => ∀ D, H1 D = none → ∃ W : Nat → Nat → St → Hp → Prop, (∃ m, W 0 m (subS ρ σ) (upd H1 D (.lst []))) ∧ ∀ i m σ2 H2, W i m σ2 H2 →
  (J.stop i H2 ∧ Q (.ref D) H2) ∨ (J.go i H2 ∧ ∃ N : St → Hp → Prop, (∀ σ' H', N σ' H' → ∃ m', m' < m ∧ W (i + 1) m' σ' H') ∧ ∀ x H3, J.yld i H2 x H3 → g x σ2 H3 fun σ4 H4 => tt σ4 H4 fun b H5 =>
    if b = true then te σ4 H5 fun y H6 => ∃ ys, H6 D = some (.lst ys) ∧ ys.length < sizeLine ∧ N σ4 (upd H6 D (.lst (ys ++ [y])))
    else N σ4 H5)
theorem comp_by {J : It} {g : TG} {tt : TT} {te : TE} {Q : Hp → Prop} {σ : St} {H : Hp} {D : Addr} (n : Nat) (Pv : Nat → St → Hp → Prop) (h0 : Pv 0 σ (upd H D (.lst [])))
    (hs : ∀ i σ2 H2, i < n → Pv i σ2 H2 → J.go i H2 ∧ ∀ x H3, J.yld i H2 x H3 → g x σ2 H3 fun σ4 H4 => tt σ4 H4 fun b H5 =>
      if b = true then te σ4 H5 fun y H6 => ∃ ys, H6 D = some (.lst ys) ∧ ys.length < sizeLine ∧ Pv (i + 1) σ4 (upd H6 D (.lst (ys ++ [y]))) else Pv (i + 1) σ4 H5)
    (hd : ∀ σ2 H2, Pv n σ2 H2 → J.stop n H2 ∧ Q H2) :
    ∃ W : Nat → Nat → St → Hp → Prop, (∃ m, W 0 m σ (upd H D (.lst []))) ∧ ∀ i m σ2 H2, W i m σ2 H2 →
      (J.stop i H2 ∧ Q H2) ∨ (J.go i H2 ∧ ∃ N : St → Hp → Prop, (∀ σ' H', N σ' H' → ∃ m', m' < m ∧ W (i + 1) m' σ' H') ∧ ∀ x H3, J.yld i H2 x H3 → g x σ2 H3 fun σ4 H4 => tt σ4 H4 fun b H5 =>
        if b = true then te σ4 H5 fun y H6 => ∃ ys, H6 D = some (.lst ys) ∧ ys.length < sizeLine ∧ N σ4 (upd H6 D (.lst (ys ++ [y]))) else N σ4 H5) := by
  refine ⟨fun i m σ H => m = n - i ∧ i ≤ n ∧ Pv i σ H, ⟨n, by simp, Nat.zero_le _, h0⟩, ?_⟩
  rintro i m σ2 H2 ⟨rfl, hi, p⟩
  by_cases hlt : i < n
  · obtain ⟨h1, h2⟩ := hs i σ2 H2 hlt p
    exact .inr ⟨h1, Pv (i + 1), fun σ' H' p' => ⟨n - (i + 1), by omega, rfl, hlt, p'⟩, h2⟩
  · have e : i = n := by omega
    subst e
    exact .inl (hd σ2 H2 p)
section
variable {X : Cx} {tg elt iter : Expr} {ifs : List Expr} {sc : Scope} {pos : Pos} {M : List Str} {ρ : List (Option Nat)} {wi : TI} {g : TG} {tt : TT} {te : TE}
theorem comp_block (osc : Scope) (hosc : X.env.scope = osc) (N : List Str) (hN : X.N = N) (S : CompScope osc N sc M ρ) (hc : X.calm = true)
    (hg : ∀ cl C s H fp xe, PG (cxComp X sc cl C M s H fp xe) tg g) (ht : ∀ cl C s H fp xe, PTs (cxComp X sc cl C M s H fp xe) ifs tt) (he : ∀ cl C s H fp xe, PE (cxComp X sc cl C M s H fp xe) elt te)
    {pins : List (Addr × Obj)} {σ : St} {H : Hp} {s : Shared} {itv : Value} {Q : VK} {RR : Value → Addr → Result → Shared → Prop} (I : Inv X pins σ H s)
    (h2 : PIE X pins σ tg (fun J H1 => ∀ D, H1 D = none → ∃ W : Nat → Nat → St → Hp → Prop, (∃ m, W 0 m (subS ρ σ) (upd H1 D (.lst []))) ∧ ∀ i m σ2 H2, W i m σ2 H2 →
      (J.stop i H2 ∧ Q (.ref D) H2) ∨ (J.go i H2 ∧ ∃ N : St → Hp → Prop, (∀ σ' H', N σ' H' → ∃ m', m' < m ∧ W (i + 1) m' σ' H') ∧ ∀ x H3, J.yld i H2 x H3 → g x σ2 H3 fun σ4 H4 => tt σ4 H4 fun b H5 =>
        if b = true then te σ4 H5 fun y H6 => ∃ ys, H6 D = some (.lst ys) ∧ ys.length < sizeLine ∧ N σ4 (upd H6 D (.lst (ys ++ [y])))
        else N σ4 H5)) itv s)
    (hR : ∀ (D C : Addr) (H' : Hp) (s' : Shared) (mC : Str → Option Value), Inv X pins σ H' s' → s'.heap.Ns C mC → FpOk X pins H' C → Q (.ref D) H' → RR (.ref D) C (.ok .next) s') :
    wpAny (model X.prog X.w) X.A (newList []) (fun acc s3 => wpAny (model X.prog X.w) X.A (newFunctionEnv sc X.env.globals (closL X.env.cells sc.names []) [] X.env.qual none .none (some X.env)) (fun cenv s4 =>
      codeAny (model X.prog X.w) X.A (.compStart (.ListComp elt [⟨tg, iter, ifs, 0⟩] sc pos) 0 itv acc { cenv with scope := relabel sc X.env }) (RR acc cenv.locals) s4) X.xe s3) X.xe s := by
  subst hosc hN
  obtain ⟨it, fp, tn, J, H2, rfl, I2, T, st2, f2, q2⟩ := h2
  have hcells : ∀ y ∈ sc.names, y.2 = .free → ∃ c, X.env.cells.lookup y.1 = some c := fun y hy hf => I2.ok.has y.1 (S.fre y hy hf)
  have hclx : ∀ {x c}, (closL X.env.cells sc.names []).lookup x = some c → X.env.cells.lookup x = some c := fun {x c} e => (closL_lookup _ _ hcells e).elim id fun z => by simp at z
  generalize hcl : closL X.env.cells sc.names [] = cl at hclx ⊢
  refine wpAny_newObj_type (wpAny_newFunctionEnv S.nocell (by intro y hy; simp at hy) (fun h1 hns hsb => ?_) S.kind)
  dsimp only at hns hsb ⊢
  generalize hG : s.heap.push { cls := .type "list", dict := none, data := .seq ([] : List Value).toArray } = G at hns hsb ⊢
  have hC : G.objs.size = s.heap.objs.size + 1 := by rw [← hG, Heap.size_push]
  have old : ∀ b o, s.heap.get? b = some o → h1.get? b = some o := fun b o e =>
    hsb.extBut b o (Nat.ne_of_lt (by rw [hC]; exact Nat.lt_succ_of_lt (Heap.lt_size e))) (Heap.get?_push_of_some _ (hG ▸ Heap.get?_push_of_some _ e))
  have hD1 : h1.get? s.heap.objs.size = some { cls := .type "list", dict := none, data := .seq ([] : List Value).toArray } :=
    hsb.extBut _ _ (by rw [hC]; exact Nat.ne_of_lt (Nat.lt_succ_self _)) (Heap.get?_push_of_some _ (hG ▸ Heap.get?_push_size _ rfl))
  have hDn : H2 s.heap.objs.size = none := I2.hok.fresh (Nat.le_refl _)
  obtain ⟨W, ⟨m0, w0⟩, turn⟩ := q2 s.heap.objs.size hDn
  have hCle : s.heap.objs.size ≤ G.objs.size := by rw [hC]; exact Nat.le_succ _
  have hCD : G.objs.size ≠ s.heap.objs.size := by rw [hC]; exact Nat.succ_ne_self _
  generalize hxe : notedBy (model X.prog X.w) X.A (compEnvC sc cl G.objs.size X.env) (fun e s' => RR (.ref s.heap.objs.size) G.objs.size (.error e) s') = xe
  have fpC : ∀ b ∈ fp, b ≠ G.objs.size := fun b hb => by
    obtain ⟨o, e, _⟩ := T.obj 0 _ st2 b hb
    have := Heap.lt_size e
    exact Nat.ne_of_lt (Nat.lt_of_lt_of_le this hCle)
  have fpS : ∀ b ∈ fp, b ∉ frs X.stack := fun b hb z => by
    obtain ⟨f0, f1, f3, _⟩ := f2 b hb
    rcases List.mem_cons.mp (I2.stkSub b z) with e | e
    · exact f1 e
    · exact f3 e
  have hok : (cxComp X sc cl G.objs.size M s H2 fp xe).Ok := by
    refine ⟨I2.ok.mod, S.kind, I2.ok.glob, I2.ok.blt, hCle, fun x y c e1 e2 => I2.ok.inj x y c (hclx e1) (hclx e2), fun x hx => ?_, (fun x c e _ => absurd (show false = true from e) Bool.false_ne_true), I2.ok.hd, I2.ok.frames, .inl rfl, fun b hb => ⟨fpC b hb, fun x c e => (f2 b hb).2.2.2.2.1 x c (hclx e)⟩,
      I2.bs, Nat.le_trans I2.ok.bsz I2.sz, fun b o e hb => ?_, fpS, I2.stack, I2.stkFree⟩
    · rcases relabel_back (names := sc.names) (env := X.env) hx with q | q
      · rw [← hcl]; exact closL_has _ _ q
      · exact absurd rfl (S.nocell _ q)
    · rcases (f2 b hb).2.2.2.1 with z | z
      · exact I2.ok.noex b o e z
      · exact absurd (Nat.lt_of_lt_of_le (Heap.lt_size e) (Nat.le_trans I2.ok.bsz z)) (Nat.lt_irrefl _)
  have I4 : Inv (cxComp X sc cl G.objs.size M s H2 fp xe) [] (subS ρ σ) (upd H2 s.heap.objs.size (.lst [])) { s with heap := h1, toks := s.toks + ([] : List (Str × Value)).length } := by
    refine ⟨hok, rfl, I2.bare, Un.laid old (Nat.le_refl _) hDn, ⟨_, hns, fun j x v e1 e2 _ => ?_⟩, fun x c e => ?_, ?_, fun x c e => ?_, fun p hp => absurd (show p ∈ ([] : List (Addr × Obj)) from hp) (by simp), I2.hok.laid old (Nat.le_refl _) ⟨by show 0 ≤ sizeLine; decide, [], 0, .nil, hD1⟩, ?_⟩
    · unfold subS at e2
      rw [List.getElem?_map] at e2
      cases q : ρ[j]? with
      | none => rw [q] at e2; cases e2
      | some o =>
        rw [q] at e2
        cases o with
        | none => cases e2
        | some i =>
          have e2' : (σ[i]?).join = some v := Option.some.inj e2
          have e3 : σ[i]? = some (some v) := by
            cases z : σ[i]? with
            | none => rw [z] at e2'; cases e2'
            | some y => rw [z] at e2'; cases y with
              | none => cases e2'
              | some y => cases e2'; rfl
          have hz : (ρ.zip M)[j]? = some (some i, x) := List.getElem?_zip_eq_some.mpr ⟨q, e1⟩
          have hr := S.ren (some i, x) (List.mem_of_getElem? hz)
          obtain ⟨r1, r2⟩ := of_decide_eq_true hr
          obtain ⟨m, hn, hl⟩ := I2.loc
          have hfr := S.fre _ (PySem.mem_of_lookup r2) rfl
          obtain ⟨u, ru, lk⟩ := hl i x v r1 e3 (hfr.elim (fun z => .inr (.inl z)) fun z => .inr (.inr z))
          refine ⟨u, ru, ?_⟩
          rcases lk with ⟨k, _⟩ | ⟨_, c, hcc, cell⟩
          · have k' : X.env.scope.names.lookup x = some .local := k
            rcases hfr with z | z
            · rw [k'] at z; cases z
            · rw [k'] at z; cases z
          · obtain ⟨c', hc'⟩ := closL_has (cells := X.env.cells) sc.names [] (PySem.mem_of_lookup r2)
            rw [hcl] at hc'
            have := hclx hc'
            rw [hcc] at this
            cases this
            obtain ⟨oc, ho, hd⟩ := cell
            exact .inr ⟨relabel_free r2, _, hc', oc, old _ _ ho, hd⟩
    · obtain ⟨v, oc, ho, hd⟩ := I2.cell x c (hclx e)
      exact ⟨v, oc, old _ _ ho, hd⟩
    · show upd H2 s.heap.objs.size (.lst []) G.objs.size = none
      rw [upd_ne hCD]
      exact I2.hok.fresh hCle
    · show upd H2 s.heap.objs.size (.lst []) c = none
      obtain ⟨v, oc, ho, hd⟩ := I2.cell x c (hclx e)
      rw [upd_ne (Nat.ne_of_lt (Heap.lt_size ho))]
      exact I2.freeC x c (hclx e)
    · show (subS ρ σ).length = M.length
      unfold subS
      rw [List.length_map, S.len]
  have st4 : tn 0 h1 := T.keep 0 _ _ st2 fun b _ o e => old b o e
  have fr4 : ∀ b ∈ fp, upd H2 s.heap.objs.size (.lst []) b = none := fun b hb => by
    obtain ⟨o, e, _⟩ := T.obj 0 _ st2 b hb
    rw [upd_ne (Nat.ne_of_lt (Heap.lt_size e))]
    exact (f2 b hb).1
  have stat : ∀ {H' : Hp}, (∀ b ∈ fp, H' b = none) → ∀ b ∈ fp, FpOk (cxComp X sc cl G.objs.size M s H2 fp xe) [] H' b := fun hn b hb =>
    ⟨hn b hb, fpC b hb, fpS b hb, .inl hb, fun x c e => (f2 b hb).2.2.2.2.1 x c (hclx e), fun p hp => absurd (show p ∈ ([] : List (Addr × Obj)) from hp) (by simp)⟩
  have loop : codeAny (model X.prog X.w) X.A (.compLoop (.ListComp elt [⟨tg, iter, ifs, 0⟩] sc pos) 0 (.ref it) (.ref s.heap.objs.size) (compEnvC sc cl G.objs.size X.env)) (RR (.ref s.heap.objs.size) G.objs.size)
      { s with heap := h1, toks := s.toks + ([] : List (Str × Value)).length } := by
    refine comp_loop (fun n s' => ∃ i σ' H', Inv (cxComp X sc cl G.objs.size M s H2 fp xe) [] σ' H' s' ∧ tn i s'.heap ∧ (∀ b ∈ fp, H' b = none) ∧ W i n σ' H') ?_ m0 ⟨0, _, _, I4, st4, fr4, w0⟩
    rw [hxe]
    rintro n s3 ⟨i, σ3, H3, I3, st3, fr3, w3⟩
    rcases turn i n σ3 H3 w3 with ⟨stop, qn⟩ | ⟨go, N, hN, step⟩
    · refine thn (T.done (cxComp X sc cl G.objs.size M s H2 fp xe) rfl rfl rfl hc i [] s3 σ3 H3 xe I3 (stat fr3) st3 stop) fun r s4 ⟨hr, I5⟩ => ?_
      subst hr
      obtain ⟨mC, nC, _⟩ := I5.loc
      have I6 : Inv X pins σ H3 s4 := I2.call' I5.os I5.base I5.hok I5.bare fun b hb => ⟨(f2 b hb).2.2.2.1, (f2 b hb).2.1, (f2 b hb).2.2.2.2.1, (f2 b hb).2.2.2.2.2⟩
      exact hR _ _ H3 s4 mC I6 nC (I2.fpOk hCle I5.free) qn
    · refine thn (T.item (cxComp X sc cl G.objs.size M s H2 fp xe) rfl rfl rfl hc i [] s3 σ3 H3 xe I3 (stat fr3) st3 go) fun r s4 ⟨u, hr, h4⟩ => ?_
      subst hr
      refine thn h4 fun _ s5 ⟨x, H5, I5, r5, y5, st5, fr5⟩ => ?_
      have I5' := I5.pinned (stat fr5) (T.obj _ _ st5)
      refine thn (hg cl G.objs.size s H2 fp xe _ s5 σ3 H5 x u _ I5' r5 (step x H5 y5)) fun _ s6 ⟨σ6, H6, I6, q6⟩ => ?_
      have fin : ∀ {s7 : Shared} {σ7 : St} {H7 : Hp}, Inv (cxComp X sc cl G.objs.size M s H2 fp xe) ([] ++ pinsAt fp s5.heap) σ7 H7 s7 → (∃ m', m' < n ∧ W (i + 1) m' σ7 H7) →
          ∃ m, m < n ∧ ∃ i σ' H', Inv (cxComp X sc cl G.objs.size M s H2 fp xe) [] σ' H' s7 ∧ tn i s7.heap ∧ (∀ b ∈ fp, H' b = none) ∧ W i m σ' H' := fun {s7 σ7 H7} I7 ⟨m', hm, w7⟩ => by
        refine ⟨m', hm, i + 1, σ7, H7, I7.unpinned, T.keep _ _ _ st5 fun b hb o e => (I7.pin (b, o) (List.mem_append_right _ (List.mem_append_right _ (mem_pinsAt hb e)))).1, fun b hb => ?_, w7⟩
        obtain ⟨o, e, d⟩ := T.obj _ _ st5 b hb
        exact (I7.pin (b, o) (List.mem_append_right _ (List.mem_append_right _ (mem_pinsAt hb e)))).2.1
      refine thn (ht cl G.objs.size s H2 fp xe _ s6 σ6 H6 _ I6 q6) fun ok s7 ⟨H7, I7, q7⟩ => ?_
      cases ok with
      | false =>
        rw [if_neg Bool.false_ne_true] at q7 ⊢
        exact fin I7 (hN _ _ q7)
      | true =>
        rw [if_pos rfl] at q7 ⊢
        refine thn (he cl G.objs.size s H2 fp xe _ s7 σ6 H7 _ I7 q7) fun y s8 ⟨yv, H8, I8, r8, ys, hys, hlt, q8⟩ => ?_
        obtain ⟨z, its, k, rv, hl, e⟩ := I8.lstM hys
        refine call_meets F.slot_list_append ⟨_, e, rfl⟩ F.entry_list_append (F.args_list_append_2 _ _) (PySem.list_append _ its.toArray k y (by rw [List.size_toArray]; omega)) ⟨e, ?_⟩
        exact fin (I8.lset (its' := its ++ [y]) hys e (by simp) (rv.append (.cons r8 .nil)) (by rw [List.length_append, List.length_singleton]; omega)) (hN _ _ q8)
  exact codeAny_compStart_list loop (T.self X.A 0 _ _ _ st4 loop)
theorem pe_comp (osc : Scope) (N : List Str) (S : CompScope osc N sc M ρ) (hi : PI X tg iter wi) (hg : ∀ cl C s H fp xe, PG (cxComp X sc cl C M s H fp xe) tg g) (ht : ∀ cl C s H fp xe, PTs (cxComp X sc cl C M s H fp xe) ifs tt)
    (he : ∀ cl C s H fp xe, PE (cxComp X sc cl C M s H fp xe) elt te) (hosc : X.env.scope = osc := by rfl) (hN : X.N = N := by rfl) (hc : X.calm = true := by rfl) (hs : ∀ x, foldedSetIterable iter X.env x = pure x := by intro _; rfl) :
    PE X (.ListComp elt [⟨tg, iter, ifs, 0⟩] sc pos) (tComp wi ρ g tt te) := by
  intro pins s σ H Q I h
  have hcells : ∀ y ∈ sc.names, y.2 = .free → ∃ c, X.env.cells.lookup y.1 = some c := fun y hy hf => I.ok.has y.1 (by show X.env.scope.names.lookup y.1 = _ ∨ X.env.scope.names.lookup y.1 = _; rw [hosc]; exact S.fre y hy hf)
  rw [eval_ListComp]
  refine wpAny_comprehension_free (M := model X.prog X.w) (A := X.A) (E := X.xe) (e := .ListComp elt [⟨tg, iter, ifs, 0⟩] sc pos) rfl hs (closure_pure hcells) S.kind S.own (thn (hi pins s σ H _ I h) fun v s1 h1 => thn h1 fun itv s2 h2 => ?_)
  obtain ⟨_, _, _, _, _, _, I2, _⟩ := id h2
  refine comp_block (RR := fun acc C => compPost (model X.prog X.w) X.A X.xe none (EP X pins σ Q) acc C) osc hosc N hN S hc hg ht he I2 h2 fun D C H' s' mC I' nC fC q => ?_
  refine ⟨mC, nC, fun h' sb => ?_⟩
  obtain ⟨f0, f1, _, f3, f4, f5⟩ := fC
  exact ⟨.ref D, H', I'.turned (t' := s'.toks) (fun b o hb e => (sb.2 b hb).trans e) f0 f1 f3 f4 f5, rfl, q⟩
theorem ps_setC {j : Nat} {x : Str} {px spos : Pos} (osc : Scope) (N : List Str) (S : CompScope osc N sc M ρ) (hNd : X.N.Nodup) (hj : X.N[j]? = some x) (hx : Loc X.env.scope x) (hi : PI X tg iter wi) (hg : ∀ cl C s H fp xe, PG (cxComp X sc cl C M s H fp xe) tg g)
    (ht : ∀ cl C s H fp xe, PTs (cxComp X sc cl C M s H fp xe) ifs tt) (he : ∀ cl C s H fp xe, PE (cxComp X sc cl C M s H fp xe) elt te)
    (hsw : swapsWith (.ListComp elt [⟨tg, iter, ifs, 0⟩] sc pos) (some (.Name x px)) spos.line X.env = pure true := by rfl) (hosc : X.env.scope = osc := by rfl) (hN : X.N = N := by rfl) (hc : X.calm = true := by rfl) (hs : ∀ x, foldedSetIterable iter X.env x = pure x := by intro _; rfl)
    (hf : X.fn x = true ∨ X.env.scope.names.lookup x = some .local := by first | exact .inl rfl | exact .inr rfl | assumption) :
    PS X (.Assign [.Name x px] (.ListComp elt [⟨tg, iter, ifs, 0⟩] sc pos) spos) (tAsg (tComp wi ρ g tt te) (gName j)) := by
  intro pins s σ H D I h
  have hcells : ∀ y ∈ sc.names, y.2 = .free → ∃ c, X.env.cells.lookup y.1 = some c := fun y hy hf => I.ok.has y.1 (by show X.env.scope.names.lookup y.1 = _ ∨ X.env.scope.names.lookup y.1 = _; rw [hosc]; exact S.fre y hy hf)
  rw [exec_Assign_Name_used _ _ _ _ hsw]
  refine wpAny_bind (wpAny_standAt (wpAny_bind ?_))
  show wpAny (model X.prog X.w) X.A (do let _ ← comprehension (.ListComp elt [⟨tg, iter, ifs, 0⟩] sc pos) sc X.env (firstIterPos [⟨tg, iter, ifs, 0⟩] pos) (newList []) false (eval iter X.env) (some (assign (.Name x px) X.env))) _ X.xe s
  refine wpAny_bind (thn (Q := fun _ s' => SP X pins D .next s') (wpAny_comprehension_free (M := model X.prog X.w) (A := X.A) (E := X.xe) (e := .ListComp elt [⟨tg, iter, ifs, 0⟩] sc pos) (use := some (assign (.Name x px) X.env)) rfl hs (closure_pure hcells) S.kind S.own
    (thn (hi pins s σ H _ I h) fun v s1 h1 => thn h1 fun itv s2 h2 => ?_)) fun _ s' hq => wpAny_pure (wpAny_pure hq))
  obtain ⟨_, _, _, _, _, _, I2, _⟩ := id h2
  refine comp_block (Q := fun v H' => gName j v σ H' D.nx) (RR := fun acc C => compPost (model X.prog X.w) X.A X.xe (some (assign (.Name x px) X.env)) (fun _ s' => SP X pins D .next s') acc C) osc hosc N hN S hc hg ht he I2 h2 fun D' C H' s' mC I' nC fC q => ?_
  show wpAny _ _ (assign (.Name x px) X.env (.ref D')) _ _ s'
  refine wpAny_assign_Name (store_ok2 I' hNd hj hx (v := .ref D') rfl (fun s3 I3 ⟨a, sb, ha⟩ => ?_) hf)
  have hCa : C ≠ a := by
    rcases ha with e | e
    · rw [e]; exact fC.2.1
    · exact fun z => fC.2.2.2.2.1 x a e z.symm
  refine ⟨mC, nC.sameBut sb hCa, fun h' sb2 => ?_⟩
  obtain ⟨f0, f1, _, f3, f4, f5⟩ := fC
  exact ⟨_, H', I3.turned (t' := s3.toks) (fun b o hb e => (sb2.2 b hb).trans e) f0 f1 f3 f4 f5, q⟩
end
end L2
set_option Elab.async false
set_option linter.all false
set_option maxRecDepth 100000
set_option maxHeartbeats 4000000
namespace L2
open PySem PySem.Spec PyProof.Rows
section
variable {X : Cx} {tg : Expr}
theorem sl_listK {K : PySem.W.Frag} (h : X.K = K) : SlR X (rSlL K) := h ▸ sl_list
theorem ix_listK {K : PySem.W.Frag} (h : X.K = K) : IxR X (rIxL K) := h ▸ ix_list
theorem ix_tupK {K : PySem.W.Frag} (h : X.K = K) : IxR X (rIxT K) := h ▸ ix_tup
theorem op_in_seqK {K : PySem.W.Frag} (h : X.K = K) : OpR X (compareOp .In) (rIn K false) := h ▸ op_in_seq
theorem op_notin_seqK {K : PySem.W.Frag} (h : X.K = K) : OpR X (compareOp .NotIn) (rIn K true) := h ▸ op_notIn_seq
theorem call_tuple_ofK {K : PySem.W.Frag} (h : X.K = K) : CallR X (.type "tuple") (fun xs H Q => ∃ p ys, xs = [.ref p] ∧ ((SqL K H p ys ∧ ∀ l, H l = none → Q (.ref l) (upd H l (.tup ys))) ∨ (SqT K H p ys ∧ Q (.ref p) H))) := h ▸ call_tuple_of
theorem pg_tupK {K : PySem.W.Frag} {pos : Pos} {es : List Expr} {k : Nat} {t : TGs} {n : Nat} (hK : X.K = K) (hc : X.calm = true) (h : PGs X es t) (hn : (assignEach es X.env).length = n := by rfl) (hst : (assignEach es X.env).findIdx? (·.1) = none := by rfl) : PG X (.Tuple es k pos) (gTup K n t) := hK ▸ pg_tup hc h hn hst
end
end L2
set_option Elab.async false
set_option linter.all false
set_option maxRecDepth 100000
set_option maxHeartbeats 4000000
namespace L2
open PySem PySem.Spec PyProof.Rows
noncomputable def PairAt (H : Hp) (v : V) (d : Str × Str) : Prop := ∃ p, v = .ref p ∧ H p = some (.tup [.str d.1, .str d.2]) ∧ NameOk d.1 ∧ NameOk d.2
noncomputable abbrev Pairs (H : Hp) : List V → List (Str × Str) → Prop := Paired (PairAt H)
theorem PairAt.mono {H H' : Hp} (s : Tups H H') {v : V} {t : Str × Str} (h : PairAt H v t) : PairAt H' v t := by
  obtain ⟨p, e, h, o⟩ := h
  exact ⟨p, e, s p _ h, o⟩
theorem Pairs.mono {H H' : Hp} (s : Tups H H') {vs : List V} {ts : List (Str × Str)} (h : Pairs H vs ts) : Pairs H' vs ts := Paired.mapP h fun _ _ q => q.mono s
structure PairsAt (H : Hp) (t : Addr) (ps : List (Str × Str)) : Prop where
  ex : ∃ vs, H t = some (.tup vs) ∧ Pairs H vs ps
  hi : ps.length ≤ 6
theorem PairsAt.mono {H H' : Hp} (s : Tups H H') {t : Addr} {ts : List (Str × Str)} (h : PairsAt H t ts) : PairsAt H' t ts := by
  obtain ⟨⟨vs, h1, h2⟩, hi⟩ := h
  exact ⟨⟨vs, s t _ h1, h2.mono s⟩, hi⟩
noncomputable def optV : Option Str → V
  | none => .non
  | some x => .str x
inductive Rw where
  | bring (p : Str) (ps : List (Str × Str))
  | give (o g : Str)
  | set (o : Str) (ts : List (Int × Th))
  | take (o : Str)
  | say (ts : List (Int × Th)) (w : Option Str)
  | need (ts : List (Int × Th))
  | ask (p : Str) (w : Option Str)
  | part (p : Str)
  | doo (p : Str)
noncomputable def RowAt (H : Hp) (r : Addr) : Rw → Prop
  | .bring p ps => ∃ t, H r = some (.tup [.str "bring", .str p, .ref t]) ∧ PairsAt H t ps
  | .give o g => H r = some (.tup [.str "give", .str o, .str g])
  | .set o ts => ∃ t, H r = some (.tup [.str "set", .str o, .ref t]) ∧ TermsAt H t ts
  | .take o => H r = some (.tup [.str "take", .str o])
  | .say ts w => ∃ t, H r = some (.tup [.str "say", .ref t, optV w]) ∧ TermsAt H t ts
  | .need ts => ∃ t, H r = some (.tup [.str "need", .ref t]) ∧ TermsAt H t ts
  | .ask p w => H r = some (.tup [.str "ask", .str p, optV w])
  | .part p => H r = some (.tup [.str "part", .str p])
  | .doo p => H r = some (.tup [.str "do", .str p])
theorem RowAt.mono {H H' : Hp} (s : Tups H H') {r : Addr} {rw : Rw} (h : RowAt H r rw) : RowAt H' r rw := by
  cases rw with
  | bring p ps => obtain ⟨t, h1, h2⟩ := h; exact ⟨t, s _ _ h1, h2.mono s⟩
  | give o g => exact s _ _ h
  | set o ts => obtain ⟨t, h1, h2⟩ := h; exact ⟨t, s _ _ h1, h2.mono s⟩
  | take o => exact s _ _ h
  | say ts w => obtain ⟨t, h1, h2⟩ := h; exact ⟨t, s _ _ h1, h2.mono s⟩
  | need ts => obtain ⟨t, h1, h2⟩ := h; exact ⟨t, s _ _ h1, h2.mono s⟩
  | ask p w => exact s _ _ h
  | part p => exact s _ _ h
  | doo p => exact s _ _ h
end L2
set_option Elab.async false
set_option linter.all false
set_option maxRecDepth 100000
set_option maxHeartbeats 4000000
namespace L2
open PySem PySem.Spec PyProof.Rows
section
variable {X : Cx} {elts : List Expr} {k : Nat} {tpos : Pos}
end
theorem op_eqL_nil {X : Cx} (hu : X.A.units < cLine) : OpR X (compareOp .Eq) (fun x y H Q => ∃ a b xs, x = .ref a ∧ y = .ref b ∧ SqL X.K H a xs ∧ SqL X.K H b [] ∧ Q (.bl xs.isEmpty) H) := by
  intro pins s σ H x y v u Q I rx ry h
  obtain ⟨a, b, xs, rfl, rfl, ha, hb, q⟩ := h
  by_cases hx : xs = []
  · subst hx
    exact op_eqL_same hu pins s σ H _ _ _ _ Q I rx ry ⟨a, b, [], rfl, rfl, ha, hb, rfl, q⟩
  · cases rx
    cases ry
    obtain ⟨its, r1, p1, _⟩ := I.list ha
    obtain ⟨its2, r2, p2, _⟩ := I.list hb
    cases r2
    have hl1 := r1.length
    have hl : xs.length ≠ 0 := fun z => hx (List.length_eq_zero_iff.mp z)
    refine SeqAt.eq_list_lengthsAt p1.isList p2.isList (by rw [bne_iff_ne]; intro z; simp only [List.size_toArray, List.length_nil] at z; omega) hu ⟨.bl false, H, I, rfl, ?_⟩
    cases xs with
    | nil => exact absurd rfl hx
    | cons c r => exact q
end L2
set_option Elab.async false
set_option linter.all false
set_option maxRecDepth 100000
set_option maxHeartbeats 4000000
namespace L2
open PySem PySem.Spec PyProof.Rows
theorem cps_app (a b : Str) : (a ++ b).cps.toList = a.cps.toList ++ b.cps.toList := by
  show (a.cps ++ b.cps).toList = _
  simp
noncomputable abbrev Pt := Str × List Rw
noncomputable def RowV (H : Hp) (v : V) (rw : Rw) : Prop := ∃ r, v = .ref r ∧ RowAt H r rw
noncomputable abbrev RowsAt (H : Hp) : List V → List Rw → Prop := Paired (RowV H)
theorem RowsAt.mono {H H' : Hp} (s : Tups H H') {vs : List V} {rs : List Rw} (h : RowsAt H vs rs) : RowsAt H' vs rs := Paired.mapP h fun _ _ ⟨r, e, q⟩ => ⟨r, e, q.mono s⟩
noncomputable def PartAt (H : Hp) (v : V) (p : Pt) : Prop := ∃ t u vs, v = .ref t ∧ H t = some (.tup [.str p.1, .ref u]) ∧ H u = some (.tup vs) ∧ RowsAt H vs p.2
theorem PartAt.mono {H H' : Hp} (s : Tups H H') {v : V} {p : Pt} (h : PartAt H v p) : PartAt H' v p := by
  obtain ⟨t, u, vs, e, h1, h2, h3⟩ := h
  exact ⟨t, u, vs, e, s _ _ h1, s _ _ h2, h3.mono s⟩
end L2
set_option Elab.async false
set_option linter.all false
set_option maxRecDepth 100000
set_option maxHeartbeats 4000000
namespace L2
open PySem PySem.Spec PyProof.Rows
section
variable {κ : Type} [DecidableEq κ]
noncomputable def valV (kvs : List (κ × V)) (k : κ) : Option V := (kvs.find? fun kv => decide (kv.1 = k)).map (·.2)
noncomputable def putK (kvs : List (κ × V)) (k : κ) (v : V) : List (κ × V) :=
  if (kvs.any fun kv => decide (kv.1 = k)) = true then kvs.map (fun kv => if kv.1 = k then (kv.1, v) else kv) else kvs ++ [(k, v)]
theorem valV_pos {p : κ × V} {r : List (κ × V)} {k : κ} (e : p.1 = k) : valV (p :: r) k = some p.2 := by simp [valV, List.find?_cons, e]
theorem valV_neg {p : κ × V} {r : List (κ × V)} {k : κ} (e : ¬ p.1 = k) : valV (p :: r) k = valV r k := by simp [valV, List.find?_cons, e]
theorem valV_any (k : κ) : ∀ kvs : List (κ × V), (kvs.any fun kv => decide (kv.1 = k)) = (valV kvs k).isSome
  | [] => rfl
  | p :: r => by
    rw [List.any_cons]
    by_cases e : p.1 = k
    · simp only [valV_pos e, decide_eq_true e, Bool.true_or, Option.isSome_some]
    · rw [valV_neg e, decide_eq_false e, Bool.false_or]; exact valV_any k r
theorem valV_map (k j : κ) (y : V) : ∀ kvs : List (κ × V), valV (kvs.map fun kv => if kv.1 = k then (kv.1, y) else kv) j = (valV kvs j).map fun x => if j = k then y else x
  | [] => rfl
  | p :: r => by
    have ih := valV_map k j y r
    rw [List.map_cons]
    by_cases h : p.1 = k
    · rw [if_pos h]
      by_cases e : p.1 = j
      · rw [valV_pos (p := (p.1, y)) e, valV_pos e, Option.map_some, if_pos (e.symm.trans h)]
      · rw [valV_neg (p := (p.1, y)) e, valV_neg e, ih]
    · rw [if_neg h]
      by_cases e : p.1 = j
      · rw [valV_pos (p := p) e, valV_pos e, Option.map_some, if_neg (fun z => h (e.trans z))]
      · rw [valV_neg (p := p) e, valV_neg e, ih]
theorem valV_snoc (k j : κ) (y : V) : ∀ kvs : List (κ × V), valV kvs k = none → valV (kvs ++ [(k, y)]) j = if j = k then some y else valV kvs j
  | [], _ => by
    by_cases e : k = j
    · rw [if_pos e.symm]; exact valV_pos (p := (k, y)) e
    · rw [if_neg (fun z => e z.symm)]; exact valV_neg (p := (k, y)) e
  | p :: r, hn => by
    rw [List.cons_append]
    have hk : ¬ p.1 = k := fun z => by rw [valV_pos z] at hn; cases hn
    rw [valV_neg hk] at hn
    have ih := valV_snoc k j y r hn
    by_cases e : p.1 = j
    · rw [valV_pos e, valV_pos e, if_neg (fun z => hk (e.trans z))]
    · rw [valV_neg e, valV_neg e, ih]
theorem valV_put (kvs : List (κ × V)) (k j : κ) (y : V) : valV (putK kvs k y) j = if j = k then some y else valV kvs j := by
  unfold putK
  by_cases a : (kvs.any fun kv => decide (kv.1 = k)) = true
  · rw [if_pos a, valV_map]
    rw [valV_any] at a
    by_cases e : j = k
    · obtain ⟨x, hx⟩ := Option.isSome_iff_exists.mp a
      rw [if_pos e, e, hx, Option.map_some, if_pos rfl]
    · rw [if_neg e]
      cases valV kvs j with
      | none => rfl
      | some x => rw [Option.map_some, if_neg e]
  · rw [if_neg a]
    refine valV_snoc k j y kvs ?_
    rw [valV_any] at a
    cases q : valV kvs k with
    | none => rfl
    | some x => rw [q] at a; exact (a rfl).elim
theorem length_putK (kvs : List (κ × V)) (k : κ) (v : V) : (putK kvs k v).length ≤ kvs.length + 1 := by
  unfold putK
  split
  · rw [List.length_map]; omega
  · rw [List.length_append, List.length_cons, List.length_nil]; omega
theorem putK_new {kvs : List (κ × V)} {k : κ} (v : V) (h : valV kvs k = none) : putK kvs k v = kvs ++ [(k, v)] := by
  unfold putK
  rw [valV_any, h]
  exact if_neg (by decide)
theorem RelO.isSome_eq {o : Option V} {u : Option Value} (r : RelO o u) : o.isSome = u.isSome := by
  cases o with
  | none => cases u with
    | none => rfl
    | some _ => exact (show False from r).elim
  | some _ => cases u with
    | none => exact (show False from r).elim
    | some _ => rfl
theorem KV.val {kvs : List (κ × V)} {vs : List (κ × Value)} (r : KV kvs vs) (k : κ) : RelO (valV kvs k) (valueAt vs k) := by
  unfold KV at r
  induction r with
  | nil => exact True.intro
  | @cons p q ps qs h t ih =>
    obtain ⟨h1, h2⟩ := h
    by_cases e : p.1 = k
    · have e' : q.1 = k := h1.symm.trans e
      have b : valueAt (q :: qs) k = some q.2 := by simp [valueAt, List.find?_cons, e']
      rw [valV_pos e, b]; exact h2
    · have e' : ¬ q.1 = k := fun z => e (h1.trans z)
      have b : valueAt (q :: qs) k = valueAt qs k := by simp [valueAt, List.find?_cons, e']
      rw [valV_neg e, b]; exact ih
theorem KV.any {kvs : List (κ × V)} {vs : List (κ × Value)} (r : KV kvs vs) (k : κ) : (kvs.any fun kv => decide (kv.1 = k)) = vs.any fun kv => decide (kv.1 = k) := by
  unfold KV at r
  induction r with
  | nil => rfl
  | cons h t ih => rw [List.any_cons, List.any_cons, ih, h.1]
theorem KV.repl {kvs : List (κ × V)} {vs : List (κ × Value)} (r : KV kvs vs) (k : κ) {y : V} {u : Value} (ry : RelV y u) :
    KV (kvs.map fun kv => if kv.1 = k then (kv.1, y) else kv) (vs.map fun kv => if kv.1 = k then (kv.1, u) else kv) := by
  unfold KV at r ⊢
  induction r with
  | nil => exact .nil
  | @cons p q ps qs h t ih =>
    rw [List.map_cons, List.map_cons]
    refine .cons ?_ ih
    obtain ⟨h1, h2⟩ := h
    by_cases e : p.1 = k
    · rw [if_pos e, if_pos (h1.symm.trans e)]; exact ⟨h1, ry⟩
    · rw [if_neg e, if_neg (fun z => e (h1.trans z))]; exact ⟨h1, h2⟩
theorem KV.put {kvs : List (κ × V)} {vs : List (κ × Value)} (r : KV kvs vs) (k : κ) {y : V} {u : Value} (ry : RelV y u) : KV (putK kvs k y) (stored vs k u) := by
  unfold putK stored
  rw [r.any k]
  by_cases e : (vs.any fun kv => decide (kv.1 = k)) = true
  · rw [if_pos e, if_pos e]; exact r.repl k ry
  · rw [if_neg e, if_neg e]; exact Paired.snoc r ⟨rfl, ry⟩
theorem KV.length {kvs : List (κ × V)} {vs : List (κ × Value)} (r : KV kvs vs) : kvs.length = vs.length := Paired.length r
end
theorem kV_is {P : Program} {w : World} {k : Key} {u : Value} (r : RelV (kV k) u) : (mixKind P w).is k u = true := by
  cases k with
  | inl i => obtain ⟨t, e⟩ := (show ∃ t, u = Value.int i t from r); subst e; exact mixKind_int P w i t
  | inr x => obtain ⟨t, e⟩ := (show ∃ t, u = Value.str x t from r); subst e; exact mixKind_str P w x t
theorem items_are {P : Program} {w : World} : ∀ {ks : List Key} {us : List Value}, Vals (ks.map kV) us → ItemsAre (mixKind P w) ks us
  | [], _, r => by rw [List.map_nil] at r; cases r; exact .nil
  | k :: ks, _, r => by
    rw [List.map_cons] at r
    cases r with
    | cons h t => exact .cons (kV_is h) (items_are t)
noncomputable abbrev KT (H : Hp) : List (List Key × V) → List (List Key × Addr × Value) → Prop := Paired fun p q => p.1 = q.1 ∧ H q.2.1 = some (.tup (p.1.map kV)) ∧ RelV p.2 q.2.2
theorem KT.val {H : Hp} {kvs : List (List Key × V)} {xs : List (List Key × Addr × Value)} (r : KT H kvs xs) (k : List Key) : RelO (valV kvs k) ((atKey xs k).map (·.2)) := by
  induction r with
  | nil => exact True.intro
  | @cons p q ps qs h t ih =>
    obtain ⟨h1, _, h2⟩ := h
    by_cases e : p.1 = k
    · have e' : q.1 = k := h1.symm.trans e
      have b : atKey (q :: qs) k = some q.2 := by simp [atKey, List.find?_cons, e']
      rw [valV_pos e, b]; exact h2
    · have e' : ¬ q.1 = k := fun z => e (h1.trans z)
      have b : atKey (q :: qs) k = atKey qs k := by simp [atKey, List.find?_cons, e']
      rw [valV_neg e, b]; exact ih
theorem KT.repl {H : Hp} {kvs : List (List Key × V)} {xs : List (List Key × Addr × Value)} (r : KT H kvs xs) (k : List Key) {y : V} {u : Value} (ry : RelV y u) :
    KT H (kvs.map fun kv => if kv.1 = k then (kv.1, y) else kv) (xs.map (putAt k u)) := by
  induction r with
  | nil => exact .nil
  | @cons p q ps qs h t ih =>
    rw [List.map_cons, List.map_cons]
    refine .cons ?_ ih
    obtain ⟨h1, h2, h3⟩ := h
    unfold putAt
    by_cases e : p.1 = k
    · rw [if_pos e, if_pos (h1.symm.trans e)]; exact ⟨h1, h2, ry⟩
    · rw [if_neg e, if_neg (fun z => e (h1.trans z))]; exact ⟨h1, h2, h3⟩
theorem KT.put {H : Hp} {kvs : List (List Key × V)} {xs : List (List Key × Addr × Value)} (r : KT H kvs xs) (k : List Key) {b : Addr} {y : V} {u : Value} (hb : H b = some (.tup (k.map kV))) (ry : RelV y u) :
    KT H (putK kvs k y) (storedH xs k b u) := by
  have e : (kvs.any fun kv => decide (kv.1 = k)) = (atKey xs k).isSome := by
    rw [valV_any, (r.val k).isSome_eq, Option.isSome_map]
  unfold putK storedH
  rw [e]
  by_cases q : (atKey xs k).isSome = true
  · rw [if_pos q, if_pos q]; exact r.repl k ry
  · rw [if_neg q, if_neg q]; exact Paired.snoc r ⟨rfl, hb, ry⟩
theorem KT.keeps {H H' : Hp} {kvs : List (List Key × V)} {xs : List (List Key × Addr × Value)} (r : KT H kvs xs) (ht : ∀ b ys, H b = some (.tup ys) → H' b = some (.tup ys)) : KT H' kvs xs :=
  Paired.mapP r fun _ _ z => ⟨z.1, ht _ _ z.2.1, z.2.2⟩
section
variable {P : Program} {w : World} {H : Hp} {h : Heap} {a : Addr}
theorem rd_of {u : HO} (ok : HOk P w H h) (e : Rd H a u) : ObjOk P w H h a u := e.ok ok
theorem dk_rd {kvs : List (Key × V)} (ok : HOk P w H h) (e : Rd H a (.dK kvs)) : kvs.length ≤ sizeLine ∧ (a == sysModules) = false ∧ ∃ vs, KV kvs vs ∧ h.DictOf (mixKind P w) a vs :=
  show ObjOk P w H h a (.dK kvs) from rd_of ok e
theorem dk_of {kvs : List (Key × V)} (ok : HOk P w H h) (e : H a = some (.dK kvs)) : kvs.length ≤ sizeLine ∧ (a == sysModules) = false ∧ ∃ vs, KV kvs vs ∧ h.DictOf (mixKind P w) a vs := dk_rd ok (.inl e)
theorem key_of {ks : List Key} (ok : HOk P w H h) (e : H a = some (.tup (ks.map kV))) : (tupleKind (mixKind P w)).is h ks a := by
  obtain ⟨_, its, r, o, h1, h2, n, h3⟩ := (show ObjOk P w H h a (.tup (ks.map kV)) from ok a _ e)
  exact ⟨o, its.toArray, n, h1, h2, h3, by simpa using items_are r⟩
theorem dt_rd {kvs : List (List Key × V)} (ok : HOk P w H h) (e : Rd H a (.dT kvs)) : kvs.length ≤ sizeLine ∧ (a == sysModules) = false ∧
    ∃ xs, KT H kvs xs ∧ h.DictOfH (tupleKind (mixKind P w)) a xs := by
  obtain ⟨z, y, xs, r, o, es, ep, h1, h2, h3, h4, h5⟩ := (show ObjOk P w H h a (.dT kvs) from rd_of ok e)
  refine ⟨z, y, xs, r, o, es, ep, h1, h2, h3, h4, fun x hx => ?_, h5⟩
  have all : ∀ {l : List (List Key × V)} {m : List (List Key × Addr × Value)}, KT H l m → ∀ x ∈ m, (tupleKind (mixKind P w)).is h x.1 x.2.1 := by
    intro l m q
    induction q with
    | nil => intro x hx; exact nomatch hx
    | @cons p q ps qs hq t ih =>
      intro x hx
      rcases List.mem_cons.mp hx with e | hx
      · subst e
        exact key_of ok (by rw [← hq.1]; exact hq.2.1)
      · exact ih x hx
  exact all r x hx
theorem dt_of {kvs : List (List Key × V)} (ok : HOk P w H h) (e : H a = some (.dT kvs)) : kvs.length ≤ sizeLine ∧ (a == sysModules) = false ∧
    ∃ xs, KT H kvs xs ∧ h.DictOfH (tupleKind (mixKind P w)) a xs := dt_rd ok (.inl e)
end
noncomputable def DGet (H : Hp) (a : Addr) (y : V) (r : Option V) : Prop :=
  (∃ kvs k, Rd H a (.dK kvs) ∧ y = kV k ∧ r = valV kvs k) ∨ ∃ kvs k b, Rd H a (.dT kvs) ∧ y = .ref b ∧ H b = some (.tup (k.map kV)) ∧ r = valV kvs k
noncomputable def DPut (H : Hp) (a : Addr) (y v : V) (H' : Hp) : Prop :=
  (∃ kvs k, H a = some (.dK kvs) ∧ y = kV k ∧ kvs.length < sizeLine ∧ H' = upd H a (.dK (putK kvs k v))) ∨
  ∃ kvs k b, H a = some (.dT kvs) ∧ y = .ref b ∧ H b = some (.tup (k.map kV)) ∧ kvs.length < sizeLine ∧ H' = upd H a (.dT (putK kvs k v))
theorem DGet.k {H : Hp} {a : Addr} {kvs : List (Key × V)} {k : Key} (e : H a = some (.dK kvs)) : DGet H a (kV k) (valV kvs k) := .inl ⟨kvs, k, .inl e, rfl, rfl⟩
theorem DPut.k {H : Hp} {a : Addr} {kvs : List (Key × V)} {k : Key} {v : V} (e : H a = some (.dK kvs)) (hl : kvs.length < sizeLine) : DPut H a (kV k) v (upd H a (.dK (putK kvs k v))) := .inl ⟨kvs, k, e, rfl, hl, rfl⟩
section
variable {X : Cx} {pins : List (Addr × Obj)} {σ : St} {H : Hp} {s : Shared} {a : Addr} {y v : V} {u r : Value} {o : Option V} {A : Around} {E : Value → Shared → Prop}
theorem Inv.big (I : Inv X pins σ H s) : sysModules < s.heap.objs.size := by
  have h : mainGlobals < s.heap.objs.size := (I.mod.glob.keeps I.bk).lt
  exact Nat.lt_trans (by decide) h
theorem d_getItem {Q : Value → Shared → Prop} (hu : A.units + 1 < cLine) (I : Inv X pins σ H s) (g : DGet H a y (some v)) (ry : RelV y u) (h : ∀ w' s', Inv X pins σ H s' → RelV v w' → Q w' s') :
    wpAny (model X.prog X.w) A (getItem (.ref a) u) Q E s := by
  rcases g with ⟨kvs, k, e, ey, l⟩ | ⟨kvs, k, b, e, ey, eb, l⟩
  · subst ey
    obtain ⟨z, hd, vs, rel, dd⟩ := dk_rd I.hok e
    obtain ⟨w', hw, rw'⟩ := RelO.some_of (v := v) (o := valueAt vs k) (by rw [l]; exact rel.val k)
    exact wpAny_getItem_of (kV_is ry) dd.mapOf hw (h w' _ (I.tok _) rw')
  · subst ey
    cases (show u = Value.ref b from ry)
    obtain ⟨z, hd, xs, rel, dd⟩ := dt_rd I.hok e
    obtain ⟨w', hw, rw'⟩ := RelO.some_of (v := v) (o := (atKey xs k).map (·.2)) (by rw [l]; exact rel.val k)
    obtain ⟨p, hp, hp2⟩ := Option.map_eq_some_iff.mp hw
    refine wpAny_getItem_heap (tupleKind_room_in1 hu) (key_of I.hok eb) dd hp ?_
    rw [hp2]
    exact h w' _ (I.tok _) rw'
theorem d_notIn {Q : Value → Shared → Prop} (hu : A.units + 1 < cLine) (I : Inv X pins σ H s) (g : DGet H a y o) (ry : RelV y u) (h : ∀ s', Inv X pins σ H s' → Q (.bool (!o.isSome)) s') :
    wpAny (model X.prog X.w) A (compareOp .NotIn u (.ref a)) Q E s := by
  rcases g with ⟨kvs, k, e, ey, l⟩ | ⟨kvs, k, b, e, ey, eb, l⟩
  · subst ey
    obtain ⟨z, hd, vs, rel, dd⟩ := dk_rd I.hok e
    refine wpAny_notIn_of (kV_is ry) hd dd.mapOf ?_
    rw [← (rel.val k).isSome_eq, ← l]
    exact h _ (I.tok _)
  · subst ey
    cases (show u = Value.ref b from ry)
    obtain ⟨z, hd, xs, rel, dd⟩ := dt_rd I.hok e
    refine wpAny_notIn_heap (tupleKind_room_in1 hu) (key_of I.hok eb) hd dd ?_
    have q := (rel.val k).isSome_eq
    rw [Option.isSome_map] at q
    rw [← q, ← l]
    exact h _ (I.tok _)
theorem d_write {h' : Heap} {t' : Nat} {ob : HO} (I : Inv X pins σ H s) (mu : Mut (H a)) (hs : Heap.SameBut a s.heap h') (he : ∃ q, h'.get? a = some q) (new : ObjOk X.prog X.w (upd H a ob) h' a ob) :
    Inv X pins σ (upd H a ob) { s with heap := h', toks := t' } :=
  I.write (x := a) (e := a) mu (.inl rfl) (fun b q hb z => (hs.2 b hb).trans z) he new
theorem dk_new {P : Program} {w : World} {H' : Hp} {h' : Heap} {kvs : List (Key × V)} {vs : List (Key × Value)} (z : kvs.length ≤ sizeLine) (hd : (a == sysModules) = false) (rel : KV kvs vs) (dd : h'.DictOf (mixKind P w) a vs) :
    ObjOk P w H' h' a (.dK kvs) := ⟨z, hd, vs, rel, dd⟩
theorem d_setItem {H' : Hp} {Q : Unit → Shared → Prop} (hu : A.units + 1 < cLine) (I : Inv X pins σ H s) (g : DPut H a y v H') (ry : RelV y u) (rv : RelV v r) (h : ∀ s', Inv X pins σ H' s' → Q () s') :
    wpAny (model X.prog X.w) A (setItem (.ref a) u r) Q E s := by
  rcases g with ⟨kvs, k, e, ey, l, eH⟩ | ⟨kvs, k, b, e, ey, eb, l, eH⟩
  · subst ey eH
    obtain ⟨z, hd, vs, rel, dd⟩ := dk_of I.hok e
    have hz : vs.length ≤ sizeLine := by rw [← rel.length]; exact z
    have hl : (putK kvs k v).length ≤ sizeLine := by have := length_putK kvs k v; omega
    refine wpAny_setItem_pairs (hsz := hz) (kV_is ry) dd fun h' dd' hs => h _ ?_
    have he : ∃ q, h'.get? a = some q := let ⟨q, _, _, hq, _⟩ := dd'; ⟨q, hq⟩
    exact d_write I (by rw [e]; exact True.intro) hs he (dk_new hl hd (rel.put k rv) dd')
  · subst ey eH
    cases (show u = Value.ref b from ry)
    obtain ⟨z, hd, xs, rel, dd⟩ := dt_of I.hok e
    have hz : xs.length ≤ sizeLine := by rw [← Paired.length rel]; exact z
    have hl : (putK kvs k v).length ≤ sizeLine := by have := length_putK kvs k v; omega
    refine wpAny_setItem_heap (hsz := hz) (tupleKind_room_in1 hu) (key_of I.hok eb) dd fun h' dd' hs => h _ ?_
    obtain ⟨q, es, ep, hq, h2, h3, h4, _, h5⟩ := dd'
    refine d_write I (by rw [e]; exact True.intro) hs ⟨q, hq⟩ ⟨hl, hd, _, (rel.put k eb rv).keeps fun c ys ec => ?_, q, es, ep, hq, h2, h3, h4, h5⟩
    rw [upd_ne (ne_of ec e (fun z => nomatch z))]
    exact ec
end
section
variable {X : Cx} {pins : List (Addr × Obj)} {σ : St} {H : Hp} {s : Shared} {a : Addr} {kvs : List (Key × V)} {k : Key} {u : Value} {A : Around} {E : Value → Shared → Prop}
end
noncomputable def NoSl (i : Expr) : Prop := ∀ ov iv, subscripted i false ov iv = operate [ov, iv] (getItem ov iv)
theorem subD_of {prog : Program} {w : World} {A : Around} {E : Value → Shared → Prop} {s : Shared} {env : Env} {value slice : Expr} {pos : Pos} {T id : String} {Q : Value → Shared → Prop}
    (hl : typeLookup (.type T) "__getitem__" = pure (some (.builtin id))) (hs : NoSl slice)
    (h : wpAny (model prog w) A (eval value env) (fun o s₁ => wpAny (model prog w) A (eval slice env) (fun i s₂ => s₂.TypeIs o T ∧ wpAny (model prog w) A (getItem o i) Q E s₂) E s₁) E s) :
    wpAny (model prog w) A (eval (.Subscript value slice pos) env) Q E s := by
  refine Subscript_ (wpAny_mono h (fun o s₁ h₁ => wpAny_mono h₁ (fun i s₂ h₂ => ?_) fun _ _ x => x) fun _ _ x => x)
  obtain ⟨hT, h₂⟩ := h₂
  unfold subscriptTail
  refine wpAny_bind ?_
  rw [getitemInPython_of_ne hT.not_modules]
  refine wpAny_bind (wpAny_specialOf hT hl ?_)
  have fin : wpAny (model prog w) A (subscripted slice false o i) (fun r s₃ => wpAny (model prog w) A (letTemporaryGo value o r >>= fun _ => pure r) Q E s₃) E s₂ := by
    rw [hs o i]
    exact wpAny_operating (wpAny_mono h₂ (fun r s₃ h₃ => wpAny_bind (wpAny_letTemporaryGo (wpAny_pure h₃))) fun _ _ x => x)
  first
    | exact wpAny_pure (wpAny_bind fin)
    | exact wpAny_bind (wpAny_pure (wpAny_bind fin))
    | exact wpAny_bind fin
theorem dict_typeIs {X : Cx} {pins : List (Addr × Obj)} {σ : St} {H : Hp} {s : Shared} {a : Addr} {y : V} {o : Option V} (I : Inv X pins σ H s) (g : DGet H a y o) : s.TypeIs (.ref a) "dict" := by
  rcases g with ⟨kvs, k, e, _, _⟩ | ⟨kvs, k, b, e, _, _, _⟩
  · obtain ⟨_, _, vs, _, dd⟩ := dk_rd I.hok e
    exact dd.typeIs
  · obtain ⟨_, _, xs, _, dd⟩ := dt_rd I.hok e
    exact dd.typeIs
noncomputable def tDGet (td ty : TE) : TE := fun σ H Q => td σ H fun x H1 => ty σ H1 fun y H2 => ∃ a v, x = .ref a ∧ DGet H2 a y (some v) ∧ Q v H2
noncomputable def tDNotIn (ty td : TE) : TE := fun σ H Q => ty σ H fun y H1 => td σ H1 fun x H2 => ∃ a o, x = .ref a ∧ DGet H2 a y o ∧ Q (.bl (!o.isSome)) H2
noncomputable def sDPut (td ty tv : TE) : TS := fun D σ H => tv σ H fun v H1 => td σ H1 fun x H2 => ty σ H2 fun y H3 => ∃ a H4, x = .ref a ∧ DPut H3 a y v H4 ∧ D.nx σ H4
noncomputable def sDAug (td ty tv : TE) (rd : V → V → Hp → VK → Prop) : TS := fun D σ H => td σ H fun x H1 => ty σ H1 fun y H2 => ∃ a v, x = .ref a ∧ DGet H2 a y (some v) ∧
  tv σ H2 fun y2 H3 => rd v y2 H3 fun z H4 => ∃ H5, DPut H4 a y z H5 ∧ D.nx σ H5
section
variable {X : Cx} {o i e value : Expr} {pos pos' tpos : Pos} {td ty tv : TE}
theorem pe_dget (hu : X.A.units + 1 < cLine) (ho : PE X o td) (hi : PE X i ty) (hs : NoSl i) : PE X (.Subscript o i pos) (tDGet td ty) := by
  intro pins s σ H Q I h
  refine subD_of PySem.F.slot_dict_getitem.lookup hs (thn (ho pins s σ H _ I h) fun u s1 ⟨x, H1, I1, rx, q1⟩ => thn (hi pins s1 σ H1 _ I1 q1) fun iv s2 ⟨y, H2, I2, ry, a, v, ex, g, q2⟩ => ?_)
  subst ex
  obtain rfl : u = Value.ref a := rx
  exact ⟨dict_typeIs I2 g, d_getItem hu I2 g ry fun w' s3 I3 rw' => ⟨v, H2, I3, rw', q2⟩⟩
theorem pc_dnotin (hu : X.A.units + 1 < cLine) (hi : PE X i ty) (ho : PE X o td) : PC X .NotIn i o (tDNotIn ty td) := by
  intro pins s σ H Q I h
  refine thn (hi pins s σ H _ I h) fun iv s1 ⟨y, H1, I1, ry, q1⟩ => thn (ho pins s1 σ H1 _ I1 q1) fun u s2 ⟨x, H2, I2, rx, a, ov, ex, g, q2⟩ => ?_
  subst ex
  obtain rfl : u = Value.ref a := rx
  exact d_notIn hu I2 g ry fun s3 I3 => ⟨.bl (!ov.isSome), H2, I3, rfl, q2⟩
theorem ps_dput (hu : X.A.units + 1 < cLine) (ho : PE X o td) (hi : PE X i ty) (hv : PE X value tv) (hs : swapsWith value (some (.Subscript o i pos')) pos.line X.env = pure false) :
    PS X (.Assign [.Subscript o i pos'] value pos) (sDPut td ty tv) := by
  intro pins s σ H D I h
  refine wpAny_Assign_Subscript (thn (hv pins s σ H _ I h) fun r s1 ⟨v, H1, I1, rv, q1⟩ => thn (ho pins s1 σ H1 _ I1 q1) fun u s2 ⟨x, H2, I2, rx, q2⟩ => thn (hi pins s2 σ H2 _ I2 q2) fun iv s3 ⟨y, H3, I3, ry, a, H4, ex, g, q3⟩ => ?_) hs
  subst ex
  obtain rfl : u = Value.ref a := rx
  exact d_setItem hu I3 g ry rv fun s4 I4 => ⟨σ, H4, I4, q3⟩
theorem ps_daug {op : Operator} {rd : V → V → Hp → VK → Prop} (hu : X.A.units + 1 < cLine) (ho : PE X o td) (hi : PE X i ty) (hv : PE X value tv) (hop : InOp X op rd)
    (ha : ∀ ov iv new, augStore i ov iv new = (do holding [new, ov, iv] (setItem ov iv new); release [new, ov, iv] []; pure .next)) : PS X (.AugAssign (.Subscript o i tpos) op value pos) (sDAug td ty tv rd) := by
  intro pins s σ H D I h
  refine wpAny_AugAssign_SubscriptAny (thn (ho pins s σ H _ I h) fun u s1 ⟨x, H1, I1, rx, q1⟩ => thn (hi pins s1 σ H1 _ I1 q1) fun iv s2 ⟨y, H2, I2, ry, a, v, ex, g, q2⟩ => ?_) ha
  subst ex
  obtain rfl : u = Value.ref a := rx
  refine d_getItem hu I2 g ry fun w' s3 I3 rw' => thn (hv pins s3 σ H2 _ I3 q2) fun w2 s4 ⟨y2, H3, I4, ry2, q3⟩ => thn (hop pins s4 σ H3 v y2 w' w2 _ I4 rw' ry2 q3) fun w3 s5 ⟨z, H4, I5, rz, H5, g5, q4⟩ => ?_
  exact d_setItem hu I5 g5 ry rz fun s6 I6 => ⟨σ, H5, I6, q4⟩
end
theorem dk_empty {P : Program} {w : World} {H : Hp} (h : Heap) (hb : sysModules < h.objs.size) : ObjOk P w H (h.push { cls := .type "dict", data := .dict #[] }) h.objs.size (.dK []) :=
  ⟨Nat.zero_le _, beq_eq_false_iff_ne.mpr (Ne.symm (Nat.ne_of_lt hb)), [], .nil, Heap.DictOf.new h⟩
noncomputable def tDNewK : TE := fun _ H Q => ∀ p, H p = none → Q (.ref p) (upd H p (.dK []))
section
variable {X : Cx} {pos : Pos}
theorem pe_dnewK : PE X (.Dict [] [] pos) tDNewK := fun pins s σ H Q I h =>
  wpAny_Dict_empty ⟨.ref s.heap.objs.size, _, I.laid (a := s.heap.objs.size) (o := .dK []) (t' := s.toks) (fun _ _ q => Heap.get?_push_of_some _ q) (Nat.le_refl _) (dk_empty s.heap I.big), rfl, h _ (I.hok.fresh (Nat.le_refl _))⟩
end
noncomputable abbrev VV : List (V × V) → List (Value × Value) → Prop := Paired fun p q => RelV p.1 q.1 ∧ RelV p.2 q.2
structure M2 (X : Cx) (o : Expr) (m : Str) (apos : Pos) (e f : Expr) (cpos : Pos) : Prop where
  base : attributeBase o m X.env (eval o X.env) = eval o X.env
  few : ((backTo cpos (starEach [e, f] X.env)).all (fun x => !x.1) && (backToKw cpos (keywordEach [] X.env)).all (fun x => x.1.isSome)
    && decide (([e, f] : List Expr).length + ([] : List Keyword).length + (if ([] : List Keyword).isEmpty then 0 else 1) < 30)) = true
  line : (apos.endLine == cpos.line) = true
  trees : backTo cpos (starEach [e, f] X.env) = [(false, eval e X.env), (false, eval f X.env)]
noncomputable def IsD (H : Hp) (a : Addr) : Prop := (∃ kvs, Rd H a (.dK kvs)) ∨ ∃ kvs, Rd H a (.dT kvs)
theorem isD_at {X : Cx} {pins : List (Addr × Obj)} {σ : St} {H : Hp} {s : Shared} {a : Addr} (I : Inv X pins σ H s) (d : IsD H a) :
    s.TypeIs (.ref a) "dict" ∧ (∀ b, Value.ref a = .ref b → ∃ ob, s.heap.get? b = some ob ∧ ob.dict = none) ∧ (a == sysModules) = false := by
  rcases d with ⟨kvs, e⟩ | ⟨kvs, e⟩
  · obtain ⟨_, hd, vs, _, dd⟩ := dk_rd I.hok e
    refine ⟨dd.typeIs, fun b q => ?_, hd⟩
    cases q
    obtain ⟨ob, _, _, h1, h2, _⟩ := dd
    exact ⟨ob, h1, h2.2.1⟩
  · obtain ⟨_, hd, xs, _, dd⟩ := dt_rd I.hok e
    refine ⟨dd.typeIs, fun b q => ?_, hd⟩
    cases q
    obtain ⟨ob, _, _, h1, h2, _⟩ := dd
    exact ⟨ob, h1, h2.2.1⟩
section
variable {X : Cx} {pins : List (Addr × Obj)} {σ : St} {H : Hp} {s : Shared} {a : Addr} {y d : V} {u r : Value} {o : Option V} {A : Around} {E : Value → Shared → Prop}
end
section
variable {X : Cx} {o e f : Expr} {apos cpos : Pos} {td ty tx : TE}
end
section
variable {X : Cx} {pins : List (Addr × Obj)} {σ : St} {H : Hp} {s : Shared} {a : Addr} {kvs : List (Key × V)} {A : Around} {E : Value → Shared → Prop}
end
section
variable {X : Cx} {pins : List (Addr × Obj)} {σ : St} {H : Hp} {s : Shared} {a : Addr} {y : V} {u : Value} {A : Around} {E : Value → Shared → Prop}
end
end L2
namespace L2
open PySem PySem.Spec PyProof.Rows
section
variable {X : Cx}
end
section
variable {κ : Type} [DecidableEq κ]
end
end L2
set_option Elab.async false
set_option linter.all false
set_option maxRecDepth 100000
set_option maxHeartbeats 4000000
namespace L2
open PySem PySem.Spec PyProof.Rows
theorem keys_miss {prog : Program} {w : World} {A : Around} {E : Value → Shared → Prop} {s : Shared} {a : Addr} {items : Array Value} {Q : Option Value → Shared → Prop} (hL : s.heap.IsTuple a items) (hn : ∀ o, s.heap.get? a = some o → o.dict = none) (hA : A.handled = none)
    (h : ∀ h' tk, (∀ b ob, s.heap.get? b = some ob → h'.get? b = some ob) → Q none { s with heap := h', toks := tk }) : wpAny (model prog w) A (getAttr? (.ref a) "keys") Q E s := by
  obtain ⟨⟨c, dct, dat, sl⟩, hx, hc, k, hd⟩ := hL
  have hdn := hn _ hx
  simp only at hc hd hdn
  subst hc hd hdn
  obtain ⟨hp, g, d, tk, os⟩ := s
  have hT : ∀ tk', (⟨hp, g, d, tk', os⟩ : Shared).TypeIs (.ref a) "tuple" := fun _ => ⟨_, hx, rfl⟩
  have f1 := sub_AttributeError
  have f3 := F.slot_tuple_getattribute.lookup
  have f4 := F.slot_tuple_getattribute.bind (.ref a)
  have f5 := am_tuple_getattr_none
  have hmiss : typeLookup (.type "tuple") "keys" = pure none := am_miss_of_fast (by decide +kernel)
  unfold getAttr? getAttrBy? getAttrBy
  repeat (any_goals (first | assumption | exact hT _ | ((with_reducible show wpAny _ _ (call (Value.builtin "tuple.__getattribute__") _ _) _ _ _); refine call_meets F.slot_tuple_getattribute (hT _) am_entry_tuple_getattribute (F.args_tuple_getattribute_2 _ _) (meets_getattribute_miss_tuple a items k sl "keys" _ hmiss (by decide +kernel) (by decide +kernel)) ⟨hx, hA, fun h' tk' e hx' => ?_⟩) | wp_step))
  obtain ⟨t', u', he⟩ := hx'.there
  show wpAny _ _ (getattributeRaised _ _ _ _ _ _ _) _ _ _
  unfold getattributeRaised
  repeat (any_goals (first | assumption | wp_step))
  exact h _ _ hx'.keeps
theorem entry_dul : entryFor table "dict.update.loop" = some Builtin.«dict.update.loop» := entryFor_of_fast (by kernel_rfl)
theorem plain_dul : plainId "dict.update.loop" = true := by decide +kernel
section
variable {X : Cx}
noncomputable def foldP (ps : List (Str × V)) (m : List (Key × V)) : List (Key × V) := ps.foldl (fun m p => putK m (Sum.inr p.1) p.2) m
theorem dict_loop (hc : X.calm = true) {A : Around} (hA : A.handled = none) {pins : List (Addr × Obj)} {σ : St} {H0 : Hp} {Q : VK} {a d it : Addr} {vs : List V} (hda : d ≠ a) (hit : it ≠ a) (hdi : d ≠ it) :
    ∀ (n i : Nat) (s : Shared) (m : List (Key × V)) (ps : List (Str × V)) (j : Int) (tk : Tok), n = vs.length - i → Inv X pins σ (upd H0 d (.dK m)) s → s.heap.IsTupleIter it a i → FpOk X pins (upd H0 d (.dK m)) it → SqT X.K (upd H0 d (.dK m)) a vs →
      Paired (fun v (p : Str × V) => ∃ t, v = .ref t ∧ t ≠ d ∧ SqT X.K H0 t [.str p.1, p.2]) (vs.drop i) ps → m.length + ps.length ≤ 1000 → H0 it = none →
      Q (.ref d) (upd H0 d (.dK (foldP ps m))) → codeAny (model X.prog X.w) A (.builtin "dict.update.loop" ⟨[.ref d, .ref it, .int j tk, .none], []⟩) (wants (fun u s' => u = .none ∧ ∃ H', Inv X pins σ H' s' ∧ Q (.ref d) H') (fun _ _ => False)) s := by
  intro n
  induction n with
  | zero =>
    intro i s m ps j tk hn I st fp hsq hp hlen hn0 q
    have hd : vs.drop i = [] := List.drop_eq_nil_of_le (by omega)
    rw [hd] at hp
    cases hp
    obtain ⟨its, rv, pt, hz⟩ := I.tuple hsq
    have hl := rv.length
    obtain ⟨f0, f1, f2, f3, f4, f5⟩ := fp
    refine codeAny_builtin entry_dul ?_
    rw [Around.under_plainId plain_dul _]
    show wpAny _ A.in1 (pyNext (.ref it) >>= _) _ _ s
    refine wpAny_bind (wpAny_pyNext_tuple_end (A := A.in1) hA st (show s.heap.IsTuple a its.toArray from pt) (by simp; omega) fun h' eb => ?_)
    have I' : Inv X pins σ (upd H0 d (.dK m)) { s with heap := h' } := I.turned (t' := s.toks) (fun b o hb e => eb b o hb e) f0 f1 f3 f4 f5
    show wpAny _ _ (Builtin.Dict.addKeywords d [] >>= _) _ _ _
    exact wpAny_bind (wpAny_pure (wpAny_pure ⟨rfl, _, I', q⟩))
  | succ n ih =>
    intro i s m ps j tk hn I st fp hsq hp hlen hn0 q
    have hi : i < vs.length := by omega
    have hdr : vs.drop i = vs[i] :: vs.drop (i + 1) := List.drop_eq_getElem_cons hi
    rw [hdr] at hp
    cases hp with
    | @cons _ p _ ps' h1 hrest =>
    obtain ⟨t, e, htd, ht⟩ := h1
    obtain ⟨its, rv, pt, hz⟩ := I.tuple hsq
    have hl := rv.length
    have hx : vs[i]? = some (V.ref t) := by simp [hi, e]
    obtain ⟨u, hu, ru⟩ := rv.get hx
    cases ru
    obtain ⟨f0, f1, f2, f3, f4, f5⟩ := id fp
    refine codeAny_builtin entry_dul ?_
    rw [Around.under_plainId plain_dul _]
    show wpAny _ A.in1 (pyNext (.ref it) >>= _) _ _ s
    refine wpAny_bind (wpAny_pyNext_tuple_item (A := A.in1) st (show s.heap.IsTuple a its.toArray from pt) (x := .ref t) (by simpa using hu) fun h' st' sb => ?_)
    have I' : Inv X pins σ (upd H0 d (.dK m)) { s with heap := h' } := I.turned (t' := s.toks) (fun b o hb e => (sb.2 b hb).trans e) f0 f1 f3 f4 f5
    have ht' : SqT X.K (upd H0 d (.dK m)) t [.str p.1, p.2] := by
      rcases ht with (ht | ⟨o, ht⟩) | ht
      · exact .inl (.inl (by rw [upd_ne htd]; exact ht))
      · exact .inl (.inr ⟨o, by rw [upd_ne htd]; exact ht⟩)
      · exact .inr ht
    obtain ⟨kv, rkv, ptt, _⟩ := I'.tuple ht'
    cases rkv with
    | @cons _ ku _ _ rk rr =>
    cases rr with
    | @cons _ vu _ _ rvv rr =>
    cases rr
    obtain ⟨tk2, rfl⟩ := rk
    have hTy : (⟨h', s.gens, s.drawn, s.toks, s.os⟩ : Shared).TypeIs (.ref t) "tuple" := by obtain ⟨o, ho, hcl, _⟩ := ptt; exact ⟨o, ho, hcl⟩
    dsimp only
    obtain ⟨ot, hot, hoc, kt, hodat⟩ := ptt
    obtain ⟨z, hsm, ws, rel, dd⟩ := dk_of I'.hok (upd_same (H := H0) (a := d) (o := .dK m))
    have hz2 : ws.length ≤ sizeLine := by rw [← rel.length]; exact z
    refine wpAny_bind (wpAny_holding (wpAny_bind (wpAny_tryCatch ?_)))
    unfold Builtin.Dict.pairItems
    refine wpAny_bind (wpAny_typeOf hTy ?_)
    rw [if_pos (by decide)]
    refine wpAny_bind (wpAny_seqItems hot hodat (wpAny_pure ?_))
    show wpAny _ _ (holding [Value.str p.1 tk2, vu] (dictSet d (Value.str p.1 tk2) vu)) _ _ _
    refine wpAny_holding (wpAny_dictSet_pairs (knd := mixKind X.prog X.w) (k := Sum.inr p.1) (mixKind_str X.prog X.w p.1 tk2) dd (fun h2 dd2 sb2 => ?_) hz2)
    have hl2 : (putK m (Sum.inr p.1) p.2).length ≤ sizeLine := by
      have h3 := length_putK m (Sum.inr p.1) p.2
      have : sizeLine = 16777216 := sizeLine_eq
      simp only [List.length_cons] at hlen
      omega
    have he : ∃ q, h2.get? d = some q := let ⟨q, _, _, hq, _⟩ := dd2; ⟨q, hq⟩
    have I2 : Inv X pins σ (upd (upd H0 d (.dK m)) d (.dK (putK m (Sum.inr p.1) p.2))) { heap := h2, gens := s.gens, drawn := s.drawn, toks := s.toks + 1, os := s.os } :=
      d_write (s := { heap := h', gens := s.gens, drawn := s.drawn, toks := s.toks, os := s.os }) (t' := s.toks + 1) I' (by rw [upd_same]; exact True.intro) sb2 he (dk_new hl2 hsm (rel.put _ rvv) dd2)
    rw [upd_upd] at I2
    refine wpAny_pure ⟨plainId_quiet plain_dul _, ?_⟩
    have hsq2 : SqT X.K (upd H0 d (.dK (putK m (Sum.inr p.1) p.2))) a vs := by
      rcases hsq with (h | ⟨o, h⟩) | h
      · rw [upd_ne hda.symm] at h; exact .inl (.inl (by rw [upd_ne hda.symm]; exact h))
      · rw [upd_ne hda.symm] at h; exact .inl (.inr ⟨o, by rw [upd_ne hda.symm]; exact h⟩)
      · exact .inr h
    refine ih (i + 1) _ (putK m (Sum.inr p.1) p.2) ps' (j + 1) _ (by omega) I2 ?_ ⟨by rw [upd_ne hdi.symm]; exact hn0, f1, f2, f3, f4, f5⟩ hsq2 hrest ?_ hn0 q
    · obtain ⟨oi, hoi, r⟩ := st'
      exact ⟨oi, (sb2.2 it hdi.symm).trans hoi, r⟩
    · have h3 := length_putK m (Sum.inr p.1) p.2
      simp only [List.length_cons] at hlen
      omega
theorem call_dictT (hc : X.calm = true) : CallR X (.type "dict") (fun xs H Q => ∃ (a : Addr) (o : Obj) (vs : List V) (ps : List (Str × V)), xs = [.ref a] ∧ H a = some (.frz o (.tup vs)) ∧ o.dict = none ∧ Paired (fun v (p : Str × V) => ∃ t, v = .ref t ∧ SqT X.K H t [.str p.1, p.2]) vs ps ∧ ps.length ≤ 1000 ∧
    ∀ d, H d = none → Q (.ref d) (upd H d (.dK (foldP ps [])))) := by
  intro pins s σ H xs us Q I r h
  obtain ⟨a, o, vs, ps, rfl, ha, hod, hp, hlen, q⟩ := h
  obtain ⟨u, rfl, ru⟩ := vals1 r
  cases ru
  have hsq : SqT X.K H a vs := .inl (.inr ⟨o, ha⟩)
  obtain ⟨its, rv, pt, hz⟩ := I.tuple hsq
  have hobj : s.heap.get? a = some o := (I.hok a _ ha).1
  have hfr : H s.heap.objs.size = none := I.hok.fresh (Nat.le_refl _)
  refine callType_codes (Q₁ := fun obj s₁ => obj = .ref s.heap.objs.size ∧ s₁ = { s with heap := s.heap.push { cls := .type "dict", data := .dict #[] } }) F.kt_called_dict (F.kt_typeCall_dict_1 _) F.entry_dict_init (kt_code_dict_new _ ⟨rfl, rfl⟩) ?_
  rintro obj s₁ ⟨rfl, rfl⟩
  have I1 : Inv X pins σ (upd H s.heap.objs.size (.dK [])) { s with heap := s.heap.push { cls := .type "dict", data := .dict #[] } } :=
    I.laid (a := s.heap.objs.size) (o := .dK []) (t' := s.toks) (fun _ _ q => Heap.get?_push_of_some _ q) (Nat.le_refl _) (dk_empty s.heap I.big)
  have hnew : (s.heap.push { cls := .type "dict", data := .dict #[] }).DictOf (mixKind X.prog X.w) s.heap.objs.size [] := Heap.DictOf.new s.heap
  refine ⟨hnew.typeIs, F.args_dict_init_2 _ _, ?_⟩
  unfold Builtin.«dict.__init__»
  refine wpAny_bind ?_
  unfold Builtin.Dict.selfAndRest
  refine wpAny_bind (wpAny_notOrdered_dict hnew.typeIs ?_)
  show wpAny _ _ (pure (s.heap.objs.size, [Value.ref a])) _ _ _
  refine wpAny_pure ?_
  show wpAny _ _ (Builtin.Dict.updateFrom "dict.__init__" s.heap.objs.size (.ref a) [] .none) _ _ _
  have had : s.heap.objs.size ≠ a := Ne.symm (ne_of_none ha hfr)
  have hobj1 : (s.heap.push { cls := .type "dict", data := .dict #[] }).get? a = some o := Heap.get?_push_of_some _ hobj
  have htp : (s.heap.push { cls := .type "dict", data := .dict #[] }).IsTuple a its.toArray := by
    obtain ⟨o2, h1, h2⟩ := pt
    exact ⟨o2, Heap.get?_push_of_some _ h1, h2⟩
  unfold Builtin.Dict.updateFrom
  refine wpAny_bind (wpAny_typeOf (s := { s with heap := s.heap.push { cls := .type "dict", data := .dict #[] } }) (T := "tuple") (by obtain ⟨o2, h1, h2, _⟩ := htp; exact ⟨o2, h1, h2⟩) ?_)
  rw [if_pos (by decide)]
  refine wpAny_bind (keys_miss htp (fun o2 h2 => by rw [hobj1] at h2; cases h2; exact hod) (I.ok.hd hc) fun h' tk hk => ?_)
  rw [if_pos (show (none : Option Value).isNone = true from rfl)]
  refine wpAny_bind (wpAny_rule ?_)
  have I2 : Inv X pins σ (upd H s.heap.objs.size (.dK [])) { s with heap := h', toks := tk } := I1.kept hk
  have htp2 : h'.IsTuple a its.toArray := by
    obtain ⟨o2, h1, h2⟩ := htp
    exact ⟨o2, hk _ _ h1, h2⟩
  refine wpAny_bind (wpAny_pyIter_tuple (s := { s with heap := h', toks := tk }) htp2 ?_)
  refine wpAny_pure ⟨plainId_quiet plain_dul _, ?_⟩
  have I3 := I2.kept (h' := h'.push { cls := .type "tuple_iterator", data := .fields #[.ref a, .int 0 0] }) (t' := tk) fun b ob e => Heap.get?_push_of_some _ e
  have hfi : upd H s.heap.objs.size (.dK []) h'.objs.size = none := I2.hok.fresh (Nat.le_refl _)
  have hdi : s.heap.objs.size ≠ h'.objs.size := by
    intro z
    rw [← z, upd_same] at hfi
    cases hfi
  have hfi0 : H h'.objs.size = none := by rw [upd_ne hdi.symm] at hfi; exact hfi
  have hia : h'.objs.size ≠ a := fun z => by
    rw [z, ha] at hfi0
    cases hfi0
  have hsq1 : SqT X.K (upd H s.heap.objs.size (.dK [])) a vs := .inl (.inr ⟨o, by rw [upd_ne had.symm]; exact ha⟩)
  have L := dict_loop (X := X) hc (A := X.A.in1) (I.ok.hd hc) (pins := pins) (σ := σ) (H0 := H) (Q := Q) (a := a) (d := s.heap.objs.size) (it := h'.objs.size) (vs := vs) had hia hdi vs.length 0 _ [] ps 0 0 (by omega) I3 ⟨_, Heap.get?_push_size _ rfl, rfl, rfl⟩ (I2.fpOk (Nat.le_refl _) hfi) hsq1
    (Paired.mapP hp fun v p ⟨t, e, ht⟩ => ⟨t, e, fun z => ?_, ht⟩) (by simpa using hlen) hfi0 (q _ hfr)
  · refine codeAny_mono L fun r s' hr => ?_
    cases r with
    | error e => exact False.elim hr
    | ok f =>
      cases f with
      | ret v =>
        obtain ⟨e, H', I', q'⟩ := hr
        exact ⟨e, .ref s.heap.objs.size, H', I', rfl, q'⟩
      | next => exact False.elim hr
      | brk => exact False.elim hr
      | cont => exact False.elim hr
  · obtain ⟨its2, _, ⟨o2, h2, _⟩, _⟩ := I.tuple ht
    rw [z] at h2
    exact absurd (Heap.lt_size h2) (Nat.lt_irrefl _)
end
end L2
set_option Elab.async false
set_option linter.all false
set_option maxRecDepth 100000
set_option maxHeartbeats 4000000
namespace L2
open PySem PySem.Spec PyProof.Rows PySem.W
section
variable {prog : Program} {w : World} {A : Around} {E : Value → Shared → Prop} {s : Shared} {T : String} {r d : Addr} {n : Nat} {P : Nat → Value → Prop} {OK : Heap → Prop}
theorem collect_src {Q : List Value → Shared → Prop} (K : KdlSrc prog w T r d n P OK) (hh : A.handled = none) (hok : OK s.heap) (hn : n ≤ sizeLine)
    (hQ : ∀ (h' : Heap) (tk : Nat) (acc : Array Value), (∀ b o, s.heap.get? b = some o → h'.get? b = some o) → ItemsOf P acc n → Q acc.toList { s with heap := h', toks := tk }) : wpAny (model prog w) A (collect (.ref r)) Q E s := by
  unfold collect
  refine wpAny_bind (wpAny_runValue (codeAny_builtin F.entry_proto_collect ?_))
  rw [Around.under_plainId F.plain_proto_collect _]
  show wpAny _ A.in1 (newList [] >>= fun l => again (.builtin "list.__iadd__" ⟨[l, .ref r], []⟩)) _ _ s
  refine wpAny_bind (wpAny_newObj_type ?_)
  refine wpAny_pure ⟨plainId_quiet F.plain_list_iadd _, codeAny_builtin F.entry_list_iadd ?_⟩
  rw [Around.under_plainId F.plain_list_iadd _]
  have hS : (s.heap.push { cls := .type "list", data := .seq ([] : List Value).toArray }).get? s.heap.objs.size = some { cls := .type "list", data := .seq #[] 0 } := Heap.get?_push_size _ rfl
  have hlt := K.there _ hok
  show wpAny _ A.in1 (Builtin.List.listExtendWith (.ref s.heap.objs.size) (.ref r) (.ref s.heap.objs.size)) _ _ _
  have fin' : ∀ (h' : Heap) (tk c' : Nat) (acc' : Array Value), (∀ b o, b ≠ s.heap.objs.size → (s.heap.push { cls := .type "list", data := .seq ([] : List Value).toArray }).get? b = some o → h'.get? b = some o) → h'.get? s.heap.objs.size = some { cls := .type "list", dict := none, data := .seq acc' c', slots := #[] } → ItemsOf P acc' n →
      wpAny (model prog w) A (match Value.ref s.heap.objs.size with
      | Value.ref a => do
        match (← load a).data with
          | Data.seq xs _ => pure xs.toList
          | _ => unsupported "internal:collect"
      | _ => unsupported "internal:collect") Q E { s with heap := h', toks := tk } := by
    intro h' tk c' acc' hk hS' hacc
    show wpAny _ A (load s.heap.objs.size >>= _) _ _ _
    refine wpAny_bind (wpAny_load hS' ?_)
    exact wpAny_pure (hQ h' tk acc' (fun b o e => hk b o (Nat.ne_of_lt (Heap.lt_size e)) (Heap.get?_push_of_some _ e)) hacc)
  refine wpAny_mono (kdl_extend (A := A) (R := fun r s' => ∃ (h' : Heap) (tk c' : Nat) (acc' : Array Value), r = .ok (.ret (.ref s.heap.objs.size)) ∧ s' = { s with heap := h', toks := tk } ∧ (∀ b o, b ≠ s.heap.objs.size → (s.heap.push { cls := .type "list", data := .seq ([] : List Value).toArray }).get? b = some o → h'.get? b = some o) ∧ h'.get? s.heap.objs.size = some { cls := .type "list", dict := none, data := .seq acc' c', slots := #[] } ∧ ItemsOf P acc' n)
    (s := { s with heap := s.heap.push { cls := .type "list", data := .seq ([] : List Value).toArray } }) K hh (K.keep _ _ hok fun b _ o e => Heap.get?_push_of_some _ e) s.heap.objs.size (Nat.ne_of_gt hlt.1) (Nat.ne_of_gt hlt.2) (.ref s.heap.objs.size) 0 hS (fun h' tk acc' c' hk hS' hacc => ⟨h', tk, c', acc', rfl, rfl, hk, hS', hacc⟩) hn) (fun fin s' h => ?_) (fun e s' h => ?_)
  · cases fin with
    | done f =>
      obtain ⟨h', tk, c', acc', e, rfl, hk, hS', hacc⟩ := h
      cases e
      exact fin' h' tk c' acc' hk hS' hacc
    | again c' => exact ⟨h.1, codeAny_mono h.2 fun r s'' hr => by obtain ⟨h', tk, c', acc', rfl, rfl, hk, hS', hacc⟩ := hr; exact fin' h' tk c' acc' hk hS' hacc⟩
  · obtain ⟨h', tk, c', acc', e, _⟩ := h
    cases e
theorem code_tuple_new_src {Q₁ : Value → Shared → Prop} (K : KdlSrc prog w "dict" r d n P OK) (hh : A.handled = none) (hok : OK s.heap)
    (h : ∀ (h' : Heap) (tk : Nat) (acc : Array Value), (∀ b o, s.heap.get? b = some o → h'.get? b = some o) → ItemsOf P acc n → Q₁ (.ref h'.objs.size) { s with heap := h'.push { cls := .type "tuple", data := .seq acc }, toks := tk }) (hsz : n ≤ sizeLine) :
    codeAny (model prog w) A (.call (.builtin "tuple.__new__") ⟨[.type "tuple", .ref r], []⟩) (wants Q₁ E) s := by
  refine codeAny_of_tree ?_
  show wpAny _ A.in1 (do checkBuiltinCall "tuple.__new__" ⟨[.type "tuple", .ref r], []⟩; again (.builtin "tuple.__new__" ⟨[.type "tuple", .ref r], []⟩)) _ _ s
  refine wpAny_bind (wpAny_of_eq (F.newCall_tuple_1 _) (wpAny_pure ⟨plainId_quiet F.plain_tuple_new _, codeAny_builtin F.entry_tuple_new ?_⟩))
  rw [Around.under_plainId F.plain_tuple_new _]
  have hsub := sub_tuple_self
  have hinit := init_tuple_lookup
  have hmh := madeHere_tuple
  have hTI := K.type s hok
  have hh1 : A.in1.handled = none := hh
  wp_walk using wpAny_typeOf hTI, collect_src (A := A.in1) K hh1 hok hsz
  intro h' tk acc hm hacc
  show wpAny _ _ (Builtin.Tuple.tupleExact acc.toList.toArray >>= fun v => ret v) _ _ _
  unfold Builtin.Tuple.tupleExact
  refine wpAny_bind (wpAny_newObj_type ?_ (by show acc.toList.toArray.size ≤ sizeLine; simp only [Array.toArray_toList]; rw [hacc.1]; exact hsz))
  refine wpAny_pure ?_
  have e : acc.toList.toArray = acc := by simp
  rw [e]
  exact h h' tk acc hm hacc
theorem call_tuple_src {Q : Value → Shared → Prop} (K : KdlSrc prog w "dict" r d n P OK) (hh : A.handled = none) (hok : OK s.heap) (hsz : n ≤ sizeLine)
    (hQ : ∀ (h' : Heap) (tk : Nat) (acc : Array Value), (∀ b o, s.heap.get? b = some o → h'.get? b = some o) → ItemsOf P acc n → Q (.ref h'.objs.size) { s with heap := h'.push { cls := .type "tuple", data := .seq acc }, toks := tk }) :
    wpAny (model prog w) A (call (.type "tuple") [.ref r]) Q E s := by
  refine callType_codes (Q₁ := fun obj s₁ => s₁.TypeIs obj "tuple" ∧ Q obj s₁) F.called_tuple (F.typeCall_tuple_1 _) F.entry_object_init
    (code_tuple_new_src K hh hok (fun h' tk acc hm hacc => ⟨⟨_, Heap.get?_push_size _ rfl, rfl⟩, hQ h' tk acc hm hacc⟩) hsz) fun obj s₁ h₁ => ?_
  exact ⟨h₁.1, F.args_object_init_2 obj _, object_init_meets F.called_tuple.init.lookup F.called_tuple.made (by decide) prog w A.in1 _ s₁ ⟨h₁.1, rfl, h₁.2⟩⟩
end
theorem is_kV {P : Program} {w : World} {k : Key} {u : Value} (h : (mixKind P w).is k u = true) : RelV (kV k) u := by
  rcases keyIs_shape (show keyIs k u = true from h) with ⟨i, t, rfl, rfl⟩ | ⟨x, t, rfl, rfl⟩
  · exact ⟨t, rfl⟩
  · exact ⟨t, rfl⟩
noncomputable def keysV (kvs : List (Key × V)) : List V := kvs.map fun kv => kV kv.1
theorem length_keysV (kvs : List (Key × V)) : (keysV kvs).length = kvs.length := List.length_map _
theorem vals_keys {P : Program} {w : World} : ∀ {kvs : List (Key × V)} {vs : List (Key × Value)} {us : List Value}, KV kvs vs → us.length = vs.length → (∀ (j : Nat) (u : Value), us[j]? = some u → ∃ k x, vs[j]? = some (k, x) ∧ (mixKind P w).is k u = true) → Vals (keysV kvs) us
  | _, _, [], .nil, _, _ => .nil
  | _, _, _ :: _, .nil, hl, _ => by simp at hl
  | _, _, [], .cons _ _, hl, _ => by simp at hl
  | _, _, u :: us, .cons (a := p) (b := q) h hr, hl, hv => by
    obtain ⟨k, x, e, hk⟩ := hv 0 u rfl
    simp only [List.getElem?_cons_zero, Option.some.injEq] at e
    subst e
    have h1 : p.1 = k := h.1
    refine .cons (by show RelV (kV p.1) u; rw [h1]; exact is_kV hk) (vals_keys hr (by simpa using hl) fun j v hj => by simpa using hv (j + 1) v (by simpa using hj))
section
variable {X : Cx}
theorem call_tupleD (hc : X.calm = true) : CallR X (.type "tuple") (fun xs H Q => ∃ a kvs, xs = [.ref a] ∧ Rd H a (.dK kvs) ∧ ∀ l, H l = none → Q (.ref l) (upd H l (.tup (keysV kvs)))) := by
  intro pins s σ H xs us Q I r h
  obtain ⟨a, kvs, rfl, ha, q⟩ := h
  obtain ⟨u, rfl, ru⟩ := vals1 r
  cases ru
  obtain ⟨z, hsm, vs, rel, dd⟩ := dk_rd I.hok ha
  have hl := rel.length
  obtain ⟨ep, hat⟩ := dd.dictAt
  refine call_tuple_src (kdl_dict (knd := mixKind X.prog X.w) (kvs := vs) (ep := ep) hsm) (I.ok.hd hc) hat (by omega) fun h' tk acc hk hacc => ?_
  have I1 : Inv X pins σ H { s with heap := h', toks := tk } := I.kept (t' := tk) hk
  have hv : Vals (keysV kvs) acc.toList := vals_keys rel (by rw [Array.length_toList]; exact hacc.1) fun j u e => hacc.2 j u (by rw [← Array.getElem?_toList]; exact e)
  have I2 : Inv X pins σ (upd H h'.objs.size (.tup (keysV kvs))) { s with heap := h'.push { cls := .type "tuple", data := .seq acc }, toks := tk } :=
    I1.laid (t' := tk) (fun b o e => Heap.get?_push_of_some _ e) (Nat.le_refl _) (show ObjOk X.prog X.w _ _ _ (.tup (keysV kvs)) from ⟨by rw [length_keysV]; exact z, acc.toList, hv, by
      have := IsTup.new h' acc
      simpa using this⟩)
  exact ⟨.ref h'.objs.size, _, I2, rfl, q _ (I1.hok.fresh (Nat.le_refl _))⟩
end
end L2
set_option Elab.async false
set_option linter.all false
set_option maxRecDepth 100000
set_option maxHeartbeats 4000000
namespace L2
open PySem PySem.Spec PyProof.Rows
noncomputable def kindS : Rw → Str
  | .bring _ _ => "bring"
  | .give _ _ => "give"
  | .set _ _ => "set"
  | .take _ => "take"
  | .say _ _ => "say"
  | .need _ => "need"
  | .ask _ _ => "ask"
  | .part _ => "part"
  | .doo _ => "do"
noncomputable def namesIt (k : Str) : Rw → Option Str
  | .bring p _ => if ("bring" : Str) = k then some p else none
  | .ask p _ => if ("ask" : Str) = k then some p else none
  | _ => none
noncomputable def addN (l : List Str) (x : Str) : List Str := if x ∈ l then l else l ++ [x]
noncomputable def stepN (k : Str) (l : List Str) (r : Rw) : List Str := match namesIt k r with
  | none => l
  | some x => addN l x
noncomputable def namedOf (k : Str) (rs : List Rw) : List Str := rs.foldl (stepN k) []
theorem namedOf_snoc (k : Str) (rs : List Rw) (r : Rw) : namedOf k (rs ++ [r]) = stepN k (namedOf k rs) r := by
  unfold namedOf; rw [List.foldl_append]; rfl
theorem addN_len (l : List Str) (x : Str) : (addN l x).length ≤ l.length + 1 := by
  unfold addN; split <;> simp
theorem stepN_len (k : Str) (l : List Str) (r : Rw) : (stepN k l r).length ≤ l.length + 1 := by
  unfold stepN
  split
  · omega
  · exact addN_len _ _
theorem namedOf_len (k : Str) : ∀ (rs : List Rw) (l : List Str), (rs.foldl (stepN k) l).length ≤ l.length + rs.length
  | [], l => by simp
  | r :: rs, l => by
    have h1 := namedOf_len k rs (stepN k l r)
    have h2 := stepN_len k l r
    simp only [List.foldl_cons, List.length_cons]; omega
noncomputable def setD (l : List Str) : List (Key × V) := l.map fun x => (Sum.inr x, .bl true)
theorem setD_len (l : List Str) : (setD l).length = l.length := List.length_map _
theorem setD_keys (l : List Str) : keysV (setD l) = l.map V.str := by
  unfold keysV setD
  rw [List.map_map]
  rfl
theorem setD_any (l : List Str) (x : Str) : ((setD l).any fun kv => decide (kv.1 = Sum.inr x)) = decide (x ∈ l) := by
  induction l with
  | nil => simp [setD]
  | cons a r ih =>
    have : setD (a :: r) = (Sum.inr a, .bl true) :: setD r := rfl
    rw [this, List.any_cons, ih]
    by_cases e : a = x
    · subst e; simp
    · have h1 : ¬ (Sum.inr a : Key) = Sum.inr x := fun z => e (Sum.inr.inj z)
      have h2 : ¬ x = a := fun z => e z.symm
      simp [e, h2]
theorem setD_put (l : List Str) (x : Str) : putK (setD l) (Sum.inr x) (.bl true) = setD (addN l x) := by
  unfold putK
  rw [setD_any]
  unfold addN
  by_cases e : x ∈ l
  · rw [if_pos (by simpa using e), if_pos e]
    unfold setD
    rw [List.map_map]
    refine List.map_congr_left fun a _ => ?_
    show (if (Sum.inr a : Key) = Sum.inr x then ((Sum.inr a : Key), V.bl true) else (Sum.inr a, V.bl true)) = _
    split <;> rfl
  · rw [if_neg (by simpa using e), if_neg e]
    unfold setD
    rw [List.map_append]
    rfl
noncomputable def PartsF (H : Hp) (a : Addr) (ps : List Pt) : Prop := ∃ o vs, H a = some (.frz o (.tup vs)) ∧ o.dict = none ∧ Paired (PartAt H) vs ps
theorem Same.partsF {H H' : Hp} (s : Same H H') {a : Addr} {ps : List Pt} (h : PartsF H a ps) : PartsF H' a ps := by
  obtain ⟨o, vs, h1, h2, h3⟩ := h
  exact ⟨o, vs, s _ _ h1, h2, Paired.mapP h3 fun _ _ q => q.mono s.tups⟩
theorem foldP_get : ∀ (ps : List (Str × V)) (m : List (Key × V)) (n : Str) (v : V), (ps.map (·.1)).Nodup → ((n, v) ∈ ps ∨ ((∀ p ∈ ps, p.1 ≠ n) ∧ valV m (Sum.inr n) = some v)) → valV (foldP ps m) (Sum.inr n) = some v
  | [], m, n, v, _, h => by
    rcases h with h | h
    · simp at h
    · exact h.2
  | p :: ps, m, n, v, hn, h => by
    rw [List.map_cons, List.nodup_cons] at hn
    show valV (foldP ps (putK m (Sum.inr p.1) p.2)) _ = _
    refine foldP_get ps _ n v hn.2 ?_
    rcases h with h | ⟨h1, h2⟩
    · rcases List.mem_cons.mp h with e | e
      · refine .inr ⟨fun q hq z => hn.1 ?_, ?_⟩
        · rw [← e]; show n ∈ _; rw [← z]; exact List.mem_map_of_mem hq
        · rw [← e]
          show valV (putK m (Sum.inr n) v) (Sum.inr n) = _
          rw [valV_put, if_pos rfl]
      · exact .inl e
    · refine .inr ⟨fun q hq => h1 q (List.mem_cons_of_mem _ hq), ?_⟩
      rw [valV_put, if_neg (fun z => h1 p List.mem_cons_self (Sum.inr.inj z).symm)]
      exact h2
theorem RowAt.kind {H : Hp} {r : Addr} {rw : Rw} (h : RowAt H r rw) : ∃ x rest, H r = some (.tup (.str (kindS rw) :: x :: rest)) := by
  cases rw with
  | bring p ps => obtain ⟨t, h1, h2⟩ := h; exact ⟨_, _, h1⟩
  | give o g => exact ⟨_, _, h⟩
  | set o ts => obtain ⟨t, h1, h2⟩ := h; exact ⟨_, _, h1⟩
  | take o => exact ⟨_, _, h⟩
  | say ts w => obtain ⟨t, h1, h2⟩ := h; exact ⟨_, _, h1⟩
  | need ts => obtain ⟨t, h1, h2⟩ := h; exact ⟨_, _, h1⟩
  | ask p w => exact ⟨_, _, h⟩
  | part p => exact ⟨_, _, h⟩
  | doo p => exact ⟨_, _, h⟩
theorem RowAt.named {H : Hp} {r : Addr} {rw : Rw} {k : Str} (h : RowAt H r rw) (hk : k = "bring" ∨ k = "ask") : (kindS rw = k ∧ ∃ p rest, namesIt k rw = some p ∧ H r = some (.tup (.str k :: .str p :: rest))) ∨ (kindS rw ≠ k ∧ namesIt k rw = none) := by
  rcases hk with rfl | rfl
  · cases rw with
    | bring p ps => obtain ⟨t, h1, h2⟩ := h; exact .inl ⟨rfl, p, _, by simp [namesIt], h1⟩
    | ask p w => exact .inr ⟨by simp only [kindS]; decide +kernel, by simp only [namesIt]; rw [if_neg (by decide +kernel)]⟩
    | _ => exact .inr ⟨by simp only [kindS]; decide +kernel, rfl⟩
  · cases rw with
    | ask p w => exact .inl ⟨rfl, p, _, by simp [namesIt], h⟩
    | bring p ps => exact .inr ⟨by simp only [kindS]; decide +kernel, by simp only [namesIt]; rw [if_neg (by decide +kernel)]⟩
    | _ => exact .inr ⟨by simp only [kindS]; decide +kernel, rfl⟩
end L2
set_option Elab.async false
set_option linter.all false
set_option maxRecDepth 100000
set_option maxHeartbeats 4000000
namespace L2
open PySem PySem.Spec PyProof.Rows
section
variable {X : Cx}
end
noncomputable def lets : Str := "abcdefghijklmnopqrstuvwxyz"
noncomputable def letAt (i : Int) : Nat := lets.cps.toList.getD i.toNat 0
noncomputable def sgAt (i : Int) : Nat := ("abcdefghijklmnopqrstuvwxyz0123456789" : Str).cps.toList.getD i.toNat 0
theorem lets_inj : ∀ i : Nat, i < 26 → ∀ j : Nat, j < 26 → lets.cps.toList.getD i 0 = lets.cps.toList.getD j 0 → i = j := by decide +kernel
theorem lets_len : lets.cps.toList.length = 26 := by decide +kernel
theorem letAt_inj {i j : Int} (hi : 0 ≤ i) (hi2 : i < 26) (hj : 0 ≤ j) (hj2 : j < 26) (h : letAt i = letAt j) : i = j := by
  have := lets_inj i.toNat (by omega) j.toNat (by omega) h
  omega
end L2
set_option Elab.async false
set_option linter.all false
set_option maxRecDepth 100000
set_option maxHeartbeats 4000000
namespace L2
open PySem PySem.Spec PyProof.Rows
section
variable {X : Cx}
theorem op_neL_nil (hu : X.A.units < cLine) : OpR X (compareOp .NotEq) (fun x y H Q => ∃ a b xs, x = .ref a ∧ y = .ref b ∧ SqL X.K H a xs ∧ SqL X.K H b [] ∧ Q (.bl (!xs.isEmpty)) H) := by
  intro pins s σ H x y v u Q I rx ry h
  obtain ⟨a, b, xs, rfl, rfl, ha, hb, q⟩ := h
  cases rx
  cases ry
  obtain ⟨its, r1, p1, _⟩ := I.list ha
  obtain ⟨its2, r2, p2, _⟩ := I.list hb
  cases r2
  cases xs with
  | nil =>
    cases r1
    exact SeqAt.RcNeAt.lists (e := fun _ => true) p1.isList p2.isList rfl hu (fun j h1 _ => absurd h1 (by simp)) _ _ _ _ ⟨.bl false, H, I, rfl, q⟩
  | cons c r =>
    have hl1 := r1.length
    exact SeqAt.RcNeAt.lists_lengths p1.isList p2.isList (by rw [bne_iff_ne]; intro z; simp only [List.size_toArray, List.length_nil, List.length_cons] at z hl1; omega) hu _ _ _ _ ⟨.bl true, H, I, rfl, q⟩
end
end L2
set_option Elab.async false
set_option linter.all false
set_option maxRecDepth 100000
set_option maxHeartbeats 4000000
namespace L2
open PySem PySem.Spec PyProof.Rows
noncomputable def ItZl (K : PySem.W.Frag) (a b : Addr) : It :=
  ⟨fun i H => ∃ xs ys x y, SqL K H a xs ∧ SqL K H b ys ∧ xs[i]? = some x ∧ ys[i]? = some y,
   fun i H x H' => ∃ p u v, (∀ xs, SqL K H a xs → xs[i]? = some u) ∧ (∀ ys, SqL K H b ys → ys[i]? = some v) ∧ H p = none ∧ x = .ref p ∧ H' = upd H p (.tup [u, v]),
   fun i H => ∃ xs ys, SqL K H a xs ∧ SqL K H b ys ∧ xs.length = i ∧ ys.length = i⟩
noncomputable def ZipSt (n a b : Addr) (i : Nat) (h : Heap) : Prop := IsZip h (n + 4) (n + 2) (n + 3) .none ∧ IsPair h (n + 2) (.ref n) (.ref (n + 1)) ∧ (∃ x y, IsPair h (n + 3) x y) ∧ h.IsListIter n a i ∧ h.IsListIter (n + 1) b i
noncomputable def zipFp (n : Addr) : List Addr := [n + 4, n + 2, n + 3, n, n + 1]
theorem ZipSt.obj {n a b : Addr} {i : Nat} {h : Heap} (st : ZipSt n a b i h) : ∀ c ∈ zipFp n, ∃ o, h.get? c = some o ∧ ∀ v, o.data ≠ .cell v := by
  obtain ⟨h1, h2, ⟨x, y, h3⟩, ⟨o4, e4, c4, d4⟩, ⟨o5, e5, c5, d5⟩⟩ := st
  intro c hc
  simp only [zipFp, List.mem_cons, List.not_mem_nil, or_false] at hc
  rcases hc with rfl | rfl | rfl | rfl | rfl
  · exact ⟨_, h1, fun v z => nomatch z⟩
  · exact ⟨_, h2, fun v z => nomatch z⟩
  · exact ⟨_, h3, fun v z => nomatch z⟩
  · exact ⟨o4, e4, fun v z => by rw [d4] at z; cases z⟩
  · exact ⟨o5, e5, fun v z => by rw [d5] at z; cases z⟩
theorem ZipSt.keep {n a b : Addr} {i : Nat} {h h' : Heap} (st : ZipSt n a b i h) (kk : ∀ c ∈ zipFp n, ∀ o, h.get? c = some o → h'.get? c = some o) : ZipSt n a b i h' := by
  obtain ⟨h1, h2, ⟨x, y, h3⟩, ⟨o4, e4, r4⟩, ⟨o5, e5, r5⟩⟩ := st
  exact ⟨kk _ (by simp [zipFp]) _ h1, kk _ (by simp [zipFp]) _ h2, ⟨x, y, kk _ (by simp [zipFp]) _ h3⟩, ⟨o4, kk _ (by simp [zipFp]) _ e4, r4⟩, ⟨o5, kk _ (by simp [zipFp]) _ e5, r5⟩⟩
theorem turn_zipL {P : Program} {w : World} {K : PySem.W.Frag} {elts : List Expr} {k : Nat} {pos : Pos} (n a b : Addr) (ha : a < n) (hb : b < n) :
    Turn P w K (.Tuple elts k pos) (ItZl K a b) (zipFp n) (n + 4) (ZipSt n a b) where
  mem := by simp [zipFp]
  obj := fun i h st => st.obj
  keep := fun i h h' st kk => st.keep kk
  item := by
    intro X hP hw hK hc i pins s σ H E I hf st hg
    subst hP hw hK
    obtain ⟨xs, ys, x, y, hq1, hq2, hx, hy⟩ := hg
    obtain ⟨its1, rv1, p1, hz1⟩ := I.list hq1
    obtain ⟨its2, rv2, p2, hz2⟩ := I.list hq2
    obtain ⟨u1, hu1, ru1⟩ := rv1.get hx
    obtain ⟨u2, hu2, ru2⟩ := rv2.get hy
    have W := WalksT.zip2 (prog := X.prog) (w := X.w) (A := X.A) (I.ok.hd hc) (n + 4) (n + 2) (n + 3) n (n + 1) a b (PySem.W.ktu_apart n a b ha hb) its1.toArray its2.toArray
    have g1 := (List.getElem?_eq_some_iff.mp hu1).1
    have g2 := (List.getElem?_eq_some_iff.mp hu2).1
    have hsub : ∀ c, c ∈ [n + 4, n + 3, n, n + 1] → c ∈ zipFp n := fun c hc => by
      simp only [zipFp, List.mem_cons, List.not_mem_nil, or_false] at hc ⊢
      rcases hc with z | z | z | z <;> simp [z]
    have hfw : ∀ c ∈ [n + 4, n + 3, n, n + 1], FpOk X pins H c := fun c hc => hf c (hsub c hc)
    refine W.item i s _ _ (by simp only [List.size_toArray]; omega) ⟨st.1, st.2.1, st.2.2.1, st.2.2.2.1, st.2.2.2.2, p1.isList, p2.isList⟩ fun T vals h' tk hPt hT hTup hM hk => ?_
    obtain ⟨w1, w2, hw1, hw2, rfl⟩ := hPt
    have e1 : w1 = u1 := by
      have : its1[i]? = some w1 := by simpa using hw1
      rw [hu1] at this
      exact (Option.some.inj this).symm
    have e2 : w2 = u2 := by
      have : its2[i]? = some w2 := by simpa using hw2
      rw [hu2] at this
      exact (Option.some.inj this).symm
    subst e1 e2
    have I1 : Inv X pins σ H { s with heap := h', toks := tk } := I.turnedL hk hfw
    have hHT : H T = none := I.hok.fresh hT
    have fT : FpOk X pins H T := I.fpOk hT hHT
    refine ⟨_, rfl, W.go elts k pos i T { s with heap := h', toks := tk } _ _ hM fun h2 st2 hk2 => ?_⟩
    have I2' := I1.turnedL (h' := h2) (t' := tk) hk2 hfw
    have I2 : Inv X pins σ H { s with heap := h2, toks := tk } := I2'
    have hT2 : h2.IsTuple T #[w1, w2] := by
      obtain ⟨o, ho, r⟩ := hTup
      exact ⟨o, hk2 T o (W.apart i T h' hM) ho, r⟩
    have I3 : Inv X pins σ (upd H T (.tup [x, y])) { s with heap := h2, toks := tk } :=
      I2.track fT ⟨by show 2 ≤ sizeLine; decide, [w1, w2], .cons ru1 (.cons ru2 .nil), hT2⟩
    refine ⟨.ref T, _, I3, rfl, ⟨T, x, y, fun zs hz' => by rw [I.list_inj hz' hq1]; exact hx, fun zs hz' => by rw [I.list_inj hz' hq2]; exact hy, hHT, rfl, rfl⟩, ⟨st2.1, st2.2.1, st2.2.2.1, st2.2.2.2.1, st2.2.2.2.2.1⟩, fun c hc' => ?_⟩
    obtain ⟨o, ho, _⟩ := st.obj c hc'
    have hlt := Heap.lt_size ho
    rw [upd_ne (fun z => by rw [z] at hlt; exact absurd hlt (Nat.not_lt.mpr hT))]
    exact (hf c hc').1
  done := by
    intro X hP hw hK hc i pins s σ H E I hf st hg
    subst hP hw hK
    obtain ⟨xs, ys, hq1, hq2, hx, hy⟩ := hg
    obtain ⟨its1, rv1, p1, hz1⟩ := I.list hq1
    obtain ⟨its2, rv2, p2, hz2⟩ := I.list hq2
    have W := WalksT.zip2 (prog := X.prog) (w := X.w) (A := X.A) (I.ok.hd hc) (n + 4) (n + 2) (n + 3) n (n + 1) a b (PySem.W.ktu_apart n a b ha hb) its1.toArray its2.toArray
    have l1 := rv1.length
    have l2 := rv2.length
    have hmin : min its1.toArray.size its2.toArray.size = i := by simp only [List.size_toArray]; omega
    rw [hmin] at W
    have hsub : ∀ c, c ∈ [n + 4, n + 3, n, n + 1] → c ∈ zipFp n := fun c hc => by
      simp only [zipFp, List.mem_cons, List.not_mem_nil, or_false] at hc ⊢
      rcases hc with z | z | z | z <;> simp [z]
    refine W.done s _ _ ⟨st.1, st.2.1, st.2.2.1, st.2.2.2.1, st.2.2.2.2, p1.isList, p2.isList⟩ fun h' tk hk => ⟨rfl, ?_⟩
    exact I.turnedL hk fun c hc => hf c (hsub c hc)
  self := fun _ _ _ _ _ st h => wpAny_pyIter_zip st.1 h
section
variable {X : Cx} {elts : List Expr} {k : Nat} {tpos : Pos}
noncomputable def iZipL (K : PySem.W.Frag) (ta : TA) : TI := fun σ H R => ta σ H fun vs H1 => ∃ a b, vs = [.ref a, .ref b] ∧ (∃ xs, SqL K H1 a xs) ∧ (∃ ys, SqL K H1 b ys) ∧ R (ItZl K a b) H1
theorem pi_zipL {e1 e2 : Expr} {ta : TA} {p pos : Pos} (hg : Gl X "zip") (hm : X.mg "zip" = none) (ha : PA X [e1, e2] ta) (hs : starEach [e1, e2] X.env = (false, eval e1 X.env) :: starEach [e2] X.env := by rfl) (hs2 : ∀ pos, (backTo pos (starEach [e2] X.env)).any (·.1) = false := by intro _; rfl) :
    PI X (.Tuple elts k tpos) (.Call (.Name "zip" p) [e1, e2] [] pos) (iZipL X.K ta) := by
  intro pins s σ H R I h
  refine Call_ (ld_blt I hg hm boot_zip (PyProof.Rows.callWith_type1 (thn (ha pos pins s σ H _ I h) fun us s1 ⟨vs, H1, I1, r1, q1⟩ => ?_) hs (hs2 _)))
  obtain ⟨a, b, e, ⟨xs, hq1⟩, ⟨ys, hq2⟩, q⟩ := q1
  subst e
  cases r1 with
  | cons ra rr =>
  cases rr with
  | cons rb rr =>
    cases rr
    cases ra
    cases rb
    obtain ⟨its1, rv1, p1, hz1⟩ := I1.list hq1
    obtain ⟨its2, rv2, p2, hz2⟩ := I1.list hq2
    have la : a < s1.heap.objs.size := by obtain ⟨o, ho, _⟩ := p1.isList; exact Heap.lt_size ho
    have lb : b < s1.heap.objs.size := by obtain ⟨o, ho, _⟩ := p2.isList; exact Heap.lt_size ho
    refine call_zip_2 p1.isList p2.isList fun h' z1 z2 z3 z4 z5 z6 hk => ?_
    have I2 : Inv X pins σ H1 { s1 with heap := h' } := I1.kept (t' := s1.toks) hk
    refine wpAny_pyIter_zip z1 ⟨s1.heap.objs.size + 4, zipFp s1.heap.objs.size, _, _, H1, rfl, I2, turn_zipL s1.heap.objs.size a b la lb, ⟨z1, z2, ⟨_, _, z3⟩, z4, z5⟩, fun c hc => ?_, q⟩
    have hc' : s1.heap.objs.size ≤ c := by
      simp only [zipFp, List.mem_cons, List.not_mem_nil, or_false] at hc
      rcases hc with z | z | z | z | z <;> rw [z] <;> first | exact Nat.le_refl _ | exact Nat.le_add_right _ _
    exact I1.fpOk hc' (I1.hok.fresh hc')
end
end L2
set_option Elab.async false
set_option linter.all false
set_option maxRecDepth 100000
set_option maxHeartbeats 4000000
namespace L2
open PySem PySem.Spec PyProof.Rows
end L2
set_option Elab.async false
set_option linter.all false
set_option maxRecDepth 100000
set_option maxHeartbeats 4000000
namespace L2
open PySem PySem.Spec PyProof.Rows
end L2
set_option Elab.async false
set_option linter.all false
set_option maxRecDepth 100000
set_option maxHeartbeats 4000000
namespace L2
open PySem PySem.Spec PyProof.Rows
section
variable {X : Cx}
theorem call_sum (hc : X.calm = true) : CallR X (.builtin "sum") (fun xs H Q => ∃ (p : Addr) (ns : List Int), xs = [.ref p] ∧ SqL X.K H p (ns.map V.int) ∧ Q (.int ns.sum) H) := by
  intro pins s σ H xs us Q I r h
  obtain ⟨p, ns, rfl, hq, q⟩ := h
  obtain ⟨u, rfl, ru⟩ := vals1 r
  cases ru
  obtain ⟨its, r', pl, hz⟩ := I.list hq
  have hi := intsAre_of r'
  obtain ⟨ys, hx⟩ := hi.allInts.items
  have hl' : s.heap.IsList p (intItems ys) := hx ▸ pl.isList
  refine sum_intListG (I.ok.hd hc) hl' fun h' tk t' hk => ?_
  have e1 : ns = ys.toList.map (·.1) := by
    rw [← nums_intItems, ← hx]
    exact (show numsOf its.toArray.toList = ns from hi.numsOf).symm
  have e2 : preSum (numAt ys) ys.size = ns.sum := by
    rw [preSum_eq, List.take_of_length_le (by simp), e1]
  rw [e2]
  exact ⟨.int _, H, I.kept hk, ⟨_, rfl⟩, q⟩
theorem mt_bit_length : MtR X "int.bit_length" (fun x vs H Q => ∃ i : Int, x = .int i ∧ vs = [] ∧ Q (.int ((Builtin.Int.intBits i : Nat) : Int)) H) := by
  intro pins s σ H x xs v us Q I rx rs h
  obtain ⟨i, rfl, rfl, q⟩ := h
  obtain ⟨t, rfl⟩ := rx
  cases rs
  exact call_gives PySem.F.slot_int_bit_length (typeIs_int _ _ _) PySem.F.entry_int_bit_length (PySem.F.args_int_bit_length_1 _) (AutoIntG2.int_bit_length_int_0 i t) ⟨.int _, H, I.tok _, ⟨_, rfl⟩, q⟩
theorem ip_or : PIp X .BitOr (rI0 fun i j => .int (Builtin.bitOr i j)) := fun pins s σ H x y v u Q I r1 r2 h => iop_or pins s σ H x y v u Q I r1 r2 h
end
end L2
set_option Elab.async false
set_option linter.all false
set_option maxRecDepth 100000
set_option maxHeartbeats 4000000
namespace L2
open PySem PySem.Spec PyProof.Rows
section
variable {X : Cx}
end
end L2
set_option Elab.async false
set_option linter.all false
set_option maxRecDepth 100000
set_option maxHeartbeats 4000000
namespace L2
open PySem PySem.Spec PyProof.Rows
section
variable {prog : Program} {w : World} {A : Around} {E : Value → Shared → Prop} {s : Shared}
end
section
variable {X : Cx}
end
end L2
set_option Elab.async false
set_option linter.all false
set_option maxRecDepth 100000
set_option maxHeartbeats 4000000
namespace L2
open PySem PySem.Spec PyProof.Rows
theorem extend_tup (l b : Addr) (items : Array Value) (n : Nat) (items2 : Array Value) (hlong : ¬ (!items.isEmpty && Builtin.List.listTooLong (items.size + items2.size)) = true) (h1 : items.size ≤ sizeLine) (h2 : items.size + items2.size ≤ sizeLine) :
    Meets (Builtin.«list.extend» ⟨[.ref l, .ref b], []⟩) (fun _ R s => s.heap.get? l = some { cls := .type "list", dict := none, data := .seq items n, slots := #[] } ∧ (∃ o n2, s.heap.get? b = some o ∧ o.cls = .type "tuple" ∧ o.data = .seq items2 n2) ∧
      R (.ok (.ret Value.none)) { s with heap := s.heap.update l (Obj.mapSeq fun x => x ++ items2) }) :=
  .of_wp fun prog w A R s h => by
    obtain ⟨hl, ⟨o, n2, ho, hc, hd⟩, q⟩ := h
    show wpAny _ _ (Builtin.List.listExtendWith (.ref l) (.ref b) .none) _ _ s
    unfold Builtin.List.listExtendWith
    apply wpAny_bind
    refine wpAny_typeOf (T := "tuple") ⟨o, ho, hc⟩ ?_
    rw [if_pos (by simp)]
    apply wpAny_bind
    refine listItems_at ho hd ?_
    apply wpAny_bind
    refine listItems_at hl rfl ?_
    rw [if_neg hlong]
    apply wpAny_bind
    refine listUpdate_at hl rfl ?_ h1 (by rw [Array.size_append]; omega)
    exact wpAny_pure ⟨_, rfl, q⟩
section
variable {X : Cx}
noncomputable def rExtendT (K : PySem.W.Frag) : V → List V → Hp → VK → Prop := fun x vs H Q => ∃ l b xs zs, x = .ref l ∧ vs = [.ref b] ∧ H l = some (.lst xs) ∧ SqT K H b zs ∧ xs.length + zs.length ≤ sizeLine ∧ Q .non (upd H l (.lst (xs ++ zs)))
theorem mt_extendT : MtM X "list.extend" (rExtendT X.K) := by
  intro pins s σ H x vs v us Q I rx rv h
  obtain ⟨l, b, xs, zs, rfl, rfl, hH, hB, hz, q⟩ := h
  cases rx
  obtain ⟨u, rfl, ru⟩ := rv.one
  cases ru
  obtain ⟨z, its, n, r, hl, e⟩ := I.lstM hH
  obtain ⟨its2, r2, ⟨o, ho, hc, n2, hd⟩, z2⟩ := I.tuple hB
  have l1 := r.length
  have l2 := r2.length
  have hsz : its.toArray.size + its2.toArray.size ≤ sizeLine := by rw [List.size_toArray, List.size_toArray]; omega
  have hlong : ¬ (!its.toArray.isEmpty && Builtin.List.listTooLong (its.toArray.size + its2.toArray.size)) = true := by
    rw [notLongL hsz, Bool.and_false]
    exact Bool.false_ne_true
  refine call_meets PySem.F.slot_list_extend ⟨_, e, rfl⟩ PySem.F.entry_list_extend (PySem.F.args_list_extend_2 _ _) (extend_tup l b its.toArray n its2.toArray hlong (by rw [List.size_toArray]; omega) hsz) ⟨e, ⟨o, n2, ho, hc, hd⟩, ?_⟩
  refine ⟨.non, _, I.lset (its' := its ++ its2) hH e (by simp) (r.append r2) ?_, rfl, q⟩
  rw [List.length_append]
  omega
end
end L2
set_option Elab.async false
set_option linter.all false
set_option maxRecDepth 100000
set_option maxHeartbeats 4000000
namespace RV
open PySem PySem.Spec PyProof.Rows
theorem own_rv : Manifest.owners.lookup (String.ofList ['d', 'e', 's', 'r', 'e', 'v', 'e', 'r'].reverse) = some Manifest.sig_reversed := by kernel_rfl
theorem rv_next : Slot "reversed" "__next__" "reversed.__next__" :=
  .of (owner := "reversed") (n := "__next__") (by rw [typeLookup_type, builtinLookup_eq_fast]; kernel_rfl) (by decide +kernel) (by decide +kernel) (by decide +kernel)
    (by first | exact .inl (by decide +kernel) | exact .inr (by decide +kernel)) (by rw [isSubtype_type]; kernel_rfl)
theorem rv_iter : Slot "reversed" "__iter__" "reversed.__iter__" :=
  .of (owner := "reversed") (n := "__iter__") (by rw [typeLookup_type, builtinLookup_eq_fast]; kernel_rfl) (by decide +kernel) (by decide +kernel) (by decide +kernel)
    (by first | exact .inl (by decide +kernel) | exact .inr (by decide +kernel)) (by rw [isSubtype_type]; kernel_rfl)
theorem rv_hint : Slot "reversed" "__length_hint__" "reversed.__length_hint__" :=
  .of (owner := "reversed") (n := "__length_hint__") (by rw [typeLookup_type, builtinLookup_eq_fast]; kernel_rfl) (by decide +kernel) (by decide +kernel) (by decide +kernel)
    (by first | exact .inl (by decide +kernel) | exact .inr (by decide +kernel)) (by rw [isSubtype_type]; kernel_rfl)
theorem en_next : entryFor table "reversed.__next__" = some Builtin.«reversed.__next__» := entryFor_of_tree (by kernel_rfl)
theorem en_hint : entryFor table "reversed.__length_hint__" = some Builtin.«reversed.__length_hint__» := entryFor_of_tree (by kernel_rfl)
theorem en_iter : entryFor table "reversed.__iter__" = some Builtin.«dict_keyiterator.__iter__» :=
  entryFor_alias (id' := "dict_keyiterator.__iter__") (by kernel_rfl) (by first | rfl | decide +kernel | (unfold String.splitOn; simp +decide [String.splitOnAux])) (by decide +kernel) (by kernel_rfl)
theorem ar_next (a : Value) : argsOk "reversed.__next__" ⟨[a], []⟩ := by
  unfold argsOk; rw [signature?_of (id := "reversed.__next__") (n := ['_', '_', 't', 'x', 'e', 'n', '_', '_']) (o := ['d', 'e', 's', 'r', 'e', 'v', 'e', 'r']) (by kernel_rfl) own_rv]; kernel_rfl
theorem ar_iter (a : Value) : argsOk "reversed.__iter__" ⟨[a], []⟩ := by
  unfold argsOk; rw [signature?_of (id := "reversed.__iter__") (n := ['_', '_', 'r', 'e', 't', 'i', '_', '_']) (o := ['d', 'e', 's', 'r', 'e', 'v', 'e', 'r']) (by kernel_rfl) own_rv]; kernel_rfl
theorem ar_hint (a : Value) : argsOk "reversed.__length_hint__" ⟨[a], []⟩ := by
  unfold argsOk; rw [signature?_of (id := "reversed.__length_hint__") (n := ['_', '_', 't', 'n', 'i', 'h', '_', 'h', 't', 'g', 'n', 'e', 'l', '_', '_']) (o := ['d', 'e', 's', 'r', 'e', 'v', 'e', 'r']) (by kernel_rfl) own_rv]; kernel_rfl
theorem no_rev : typeLookup (.type "tuple") "__reversed__" = pure none := by rw [typeLookup_type, builtinLookup_eq_fast]; kernel_rfl
theorem no_len : typeLookup (.type "reversed") "__len__" = pure none := by rw [typeLookup_type, builtinLookup_eq_fast]; kernel_rfl
theorem tup_dict : isSubtype (.type "tuple") (.type "dict") = pure false := by rw [isSubtype_type]; kernel_rfl
theorem rv_rv : isSubtype (.type "reversed") (.type "reversed") = pure true := by rw [isSubtype_type]; kernel_rfl
theorem rv_init : Slot "reversed" "__init__" "object.__init__" :=
  .of (owner := "object") (n := "__init__") (by rw [typeLookup_type, builtinLookup_eq_fast]; kernel_rfl) (by decide +kernel) (by decide +kernel) (by decide +kernel)
    (by first | exact .inl (by decide +kernel) | exact .inr (by decide +kernel)) (by rw [isSubtype_type]; kernel_rfl)
theorem rv_called : TypeCalled "reversed" "reversed.__new__" "object.__init__" :=
  ⟨by decide +kernel, by decide +kernel, ⟨_, _, F.mro_reversed⟩, F.made_reversed, by decide +kernel, rv_rv, rv_init⟩
end RV
set_option Elab.async false
set_option linter.all false
set_option maxRecDepth 100000
set_option maxHeartbeats 4000000
namespace RV
open PySem PySem.Spec PyProof.Rows
noncomputable def revT (t : Addr) (i : Int) : Obj := { cls := .type "reversed", data := .fields #[.ref t, rawInt i] }
noncomputable def IsRevT (h : Heap) (a t : Addr) (i : Int) : Prop := ∃ o, h.get? a = some o ∧ o.cls = .type "reversed" ∧ o.data = .fields #[.ref t, rawInt i]
theorem IsRevT.move {h h' : Heap} {a t : Addr} {i : Int} (x : IsRevT h a t i) (e : ∀ o, h.get? a = some o → h'.get? a = some o) : IsRevT h' a t i := by
  obtain ⟨o, ho, r⟩ := x
  exact ⟨o, e o ho, r⟩
section
variable {prog : Program} {w : World} {A : Around} {E : Value → Shared → Prop} {s : Shared}
theorem IsRevT.ty {a t : Addr} {i : Int} (x : IsRevT s.heap a t i) : s.TypeIs (.ref a) "reversed" := by
  obtain ⟨o, ho, hc, _⟩ := x
  exact ⟨o, ho, hc⟩
theorem IsTup.move {h h' : Heap} {t : Addr} {its : Array Value} (x : IsTup h t its) (e : ∀ o, h.get? t = some o → h'.get? t = some o) : IsTup h' t its := by
  obtain ⟨o, ho, r⟩ := x
  exact ⟨o, e o ho, r⟩
theorem made_new {t : Addr} {its : Array Value} {Q₁ : Value → Shared → Prop} (ht : IsTup s.heap t its) (hz : its.size ≤ sizeLine)
    (q : ∀ tk, Q₁ (.ref s.heap.objs.size) { s with heap := s.heap.push (revT t ((its.size : Int) - 1)), toks := tk }) :
    codeAny (model prog w) A (.call (.builtin "reversed.__new__") ⟨[.type "reversed", .ref t], []⟩) (wants Q₁ E) s := by
  refine codeAny_of_tree ?_
  show wpAny _ A.in1 (checkBuiltinCall "reversed.__new__" ⟨[.type "reversed", .ref t], []⟩ >>= fun _ => again (.builtin "reversed.__new__" ⟨[.type "reversed", .ref t], []⟩)) _ _ s
  refine wpAny_bind (wpAny_of_eq (F.newCall_reversed_1 _) (wpAny_pure ⟨plainId_quiet F.plain_reversed_new _, codeAny_builtin F.entry_reversed_new ?_⟩))
  rw [Around.under_plainId F.plain_reversed_new _]
  unfold Builtin.«reversed.__new__»
  refine wpAny_bind (wpAny_of_eq (newClass_reversed _) ?_)
  try dsimp only
  refine wpAny_bind (wpAny_of_eq (a := ()) (by first | rfl | kernel_rfl) ?_)
  refine wpAny_bind (wpAny_of_eq (a := ()) (by first | rfl | kernel_rfl) ?_)
  try dsimp only
  refine wpAny_bind (wpAny_specialOf ht.typeIs no_rev ?_)
  try dsimp only
  refine wpAny_bind (wpAny_bind (wpAny_isInstance ht.typeIs tup_dict ?_))
  rw [if_neg Bool.false_ne_true]
  refine wpAny_bind (wpAny_specialOf ht.typeIs slot_tuple_getitem.lookup ?_)
  show wpAny _ _ (if (["tuple.__getitem__", "str.__getitem__", "bytes.__getitem__", "bytearray.__getitem__", "memoryview.__getitem__", "numpy.ndarray.__getitem__", "sqlite3.Row.__getitem__"].contains "tuple.__getitem__") = true then pure true else _) _ _ s
  rw [if_pos (by decide +kernel)]
  refine wpAny_pure ?_
  rw [if_neg (by decide)]
  have hfit : (its.size : Int) < 2 ^ 63 := by have : sizeLine = 16777216 := sizeLine_eq; omega
  refine wpAny_bind (len_tuple ht hfit ?_)
  refine wpAny_bind (wpAny_of_eq (a := some (its.size : Int)) rfl ?_)
  show wpAny _ _ (newObj (Value.type "reversed") (.fields #[Value.ref t, rawInt ((its.size : Int) - 1)]) >>= _) _ _ _
  refine wpAny_bind (wpAny_newObj_type (wpAny_pure ?_))
  exact q _
theorem call_rev {t : Addr} {its : Array Value} {Q : Value → Shared → Prop} (ht : IsTup s.heap t its) (hz : its.size ≤ sizeLine)
    (q : ∀ tk, Q (.ref s.heap.objs.size) { s with heap := s.heap.push (revT t ((its.size : Int) - 1)), toks := tk }) : wpAny (model prog w) A (call (.type "reversed") [.ref t]) Q E s := by
  refine callType_codes (Q₁ := fun obj s₁ => s₁.TypeIs obj "reversed" ∧ Q obj s₁) rv_called (F.typeCall_reversed_1 _) F.entry_object_init (made_new ht hz fun tk => ⟨⟨_, Heap.get?_push_size _ rfl, rfl⟩, q tk⟩) fun obj s₁ h₁ => ?_
  exact ⟨h₁.1, F.args_object_init_2 obj _, object_init_meets rv_called.init.lookup rv_called.made (by decide) prog w A.in1 _ s₁ ⟨h₁.1, rfl, h₁.2⟩⟩
theorem next_item {it t : Addr} {i : Nat} {its : Array Value} {x : Value} {Q : Option Value → Shared → Prop} (hit : IsRevT s.heap it t (i : Int)) (ht : IsTup s.heap t its) (hx : its[i]? = some x) (hz : its.size ≤ sizeLine)
    (q : ∀ h' tk, IsRevT h' it t ((i : Int) - 1) → Heap.SameBut it s.heap h' → Q (some x) { s with heap := h', toks := tk }) : wpAny (model prog w) A (pyNext (.ref it)) Q E s := by
  obtain ⟨o, ho, hc, hd⟩ := id hit
  have hi : i < its.size := by
    obtain ⟨z, _⟩ := Array.getElem?_eq_some_iff.mp hx
    exact z
  have hsl : sizeLine = 16777216 := sizeLine_eq
  have hneg : ¬ ((i : Int) < 0) := by omega
  have hseq : seqIndex? (i : Int) its.size = some i := by simp [seqIndex?, hneg, hi]
  unfold pyNext
  refine wpAny_bind (wpAny_attempt (wpAny_callSpecial?_slot (name := Str.ofString "__next__") hit.ty rv_next (wpAny_call_entry rv_next hit.ty en_next ?_ (ar_next _))))
  unfold Builtin.«reversed.__next__»
  refine wpAny_bind (wpAny_of_eq (a := (Value.ref it, [])) rfl ?_)
  try dsimp only
  refine wpAny_bind (wpAny_field ho hd (x := .ref t) rfl ?_)
  refine wpAny_bind (wpAny_field ho hd (x := rawInt (i : Int)) rfl ?_)
  show wpAny _ _ (if (i : Int) < 0 then _ else _) _ _ s
  rw [if_neg (by omega)]
  refine wpAny_bind (wpAny_specialOf ht.typeIs slot_tuple_getitem.lookup ?_)
  rw [if_neg (by simp)]
  refine wpAny_bind (wpAny_mkInt ?_)
  refine wpAny_bind (wpAny_attempt (getItem_tuple (s := { s with toks := s.toks + 1 }) ht (by omega) (by omega) hseq hx ?_))
  show wpAny _ _ (field (Value.ref it) 1 >>= _) _ _ _
  refine wpAny_bind (wpAny_field (s := { s with toks := s.toks + 1 }) ho hd (x := rawInt (i : Int)) rfl ?_)
  show wpAny _ _ (setField (Value.ref it) 1 (rawInt ((i : Int) - 1)) >>= _) _ _ _
  refine wpAny_bind (wpAny_setField (s := { s with toks := s.toks + 1 }) ho hd (by simp) ?_)
  refine wpAny_pure ⟨x, rfl, wpAny_pure (q _ _ ?_ (Heap.SameBut.update ..))⟩
  exact ⟨_, Heap.get?_update_self _ ho (Obj.isFreed_of_fields (Obj.data_mapFields hd _)), (Obj.cls_mapFields ..).trans hc, by
    rw [Obj.data_mapFields hd]
    simp⟩
theorem next_end {it t : Addr} {Q : Option Value → Shared → Prop} (hh : A.handled = none) (hit : IsRevT s.heap it t (-1))
    (q : ∀ h' tk, Heap.ExtBut it s.heap h' → Q none { s with heap := h', toks := tk }) : wpAny (model prog w) A (pyNext (.ref it)) Q E s := by
  obtain ⟨o, ho, hc, hd⟩ := id hit
  unfold pyNext
  refine wpAny_bind (wpAny_attempt (wpAny_callSpecial?_slot (name := Str.ofString "__next__") hit.ty rv_next (wpAny_call_entry rv_next hit.ty en_next ?_ (ar_next _))))
  unfold Builtin.«reversed.__next__»
  refine wpAny_bind (wpAny_of_eq (a := (Value.ref it, [])) rfl ?_)
  try dsimp only
  refine wpAny_bind (wpAny_field ho hd (x := .ref t) rfl ?_)
  refine wpAny_bind (wpAny_field ho hd (x := rawInt (-1)) rfl ?_)
  show wpAny _ _ (if (-1 : Int) < 0 then _ else _) _ _ s
  rw [if_pos (by decide)]
  refine wpAny_bind (wpAny_rule ?_)
  refine wpAny_bind (wpAny_bind (wpAny_setField ho hd (by simp) ?_))
  have h1 := Heap.get?_update_self (Obj.mapFields (·.setIfInBounds 1 (rawInt (-1)))) ho (Obj.isFreed_of_fields (Obj.data_mapFields hd _))
  refine wpAny_setField h1 (Obj.data_mapFields hd _) (by simp) ?_
  refine wpAny_bind ?_
  show wpAny _ _ (newExc (Value.type "StopIteration") [] >>= _) _ _ _
  refine wpAny_bind ?_
  simp only [newTuple, newExc]
  refine wpAny_bind (wpAny_newObj_type (wpAny_bind (m := firstArgMember _ _) (wpAny_of_eq (a := Value.none) (by first | rfl | (simp only [firstArgMember]; rfl)) (wpAny_newObj_type ?_ (by size_fits)))) (by size_fits))
  simp only [raiseNew]
  refine wpAny_bind (wpAny_handled ?_)
  rw [show A.in1.handled = none from hh]
  refine wpAny_bind (wpAny_pure (wpAny_throw ?_))
  exact wpAny_bind (wpAny_isInstance (T := "StopIteration") (b := true) ⟨_, Heap.get?_push_size _ rfl, rfl⟩ isSubtype_stop (wpAny_pure (q _ _ ((((Heap.SameBut.update ..).trans (Heap.SameBut.update ..)).extBut.push _).push _))))
theorem iter_self {it t : Addr} {i : Int} {Q : Value → Shared → Prop} (hit : IsRevT s.heap it t i) (h : Q (.ref it) s) : wpAny (model prog w) A (pyIter (.ref it)) Q E s := by
  refine wpAny_pyIter_slot hit.ty rv_iter (wpAny_call_entry rv_iter hit.ty en_iter ?_ (ar_iter _))
  show wpAny _ _ (ret (.ref it)) _ _ s
  exact wpAny_pure ⟨_, rfl, "reversed", _, hit.ty, rv_next.lookup, h⟩
end
end RV
set_option Elab.async false
set_option linter.all false
set_option maxRecDepth 100000
set_option maxHeartbeats 4000000
namespace RV
open PySem PySem.Spec PyProof.Rows
section
variable {prog : Program} {w : World} {A : Around} {E : Value → Shared → Prop} {s : Shared}
theorem walks_rev (hh : A.handled = none) (I t : Addr) (hne : t ≠ I) (its : Array Value) (hz : its.size ≤ sizeLine) :
    Walks prog w A I [I, t] [I] its.size (fun i v => its[its.size - 1 - i]? = some v) (fun i h => i ≤ its.size ∧ IsRevT h I t ((its.size : Int) - 1 - (i : Int)) ∧ IsTup h t its) where
  sub := fun b hb => by
    have e : b = I := by simpa using hb
    simp [e]
  frame := fun _ _ _ st k => ⟨st.1, st.2.1.move fun o e => k I (by simp) o e, IsTup.move st.2.2 fun o e => k t (by simp) o e⟩
  item := fun i s Q E hi st q => by
    have e1 : (its.size : Int) - 1 - (i : Int) = ((its.size - 1 - i : Nat) : Int) := by omega
    have hit := st.2.1
    rw [e1] at hit
    have hx : its[its.size - 1 - i]? = some (its[its.size - 1 - i]'(by omega)) := Array.getElem?_eq_getElem (by omega)
    refine next_item hit st.2.2 hx hz fun h' tk hit' same => ?_
    have e2 : ((its.size - 1 - i : Nat) : Int) - 1 = (its.size : Int) - 1 - ((i + 1 : Nat) : Int) := by omega
    rw [e2] at hit'
    exact q _ h' tk hx ⟨hi, hit', IsTup.move st.2.2 fun o eo => (same.2 t hne).trans eo⟩ fun b o hb eo => same.extBut b o (fun z => hb (by simp [z])) eo
  done := fun s Q E st q => by
    have e1 : (its.size : Int) - 1 - (its.size : Int) = -1 := by omega
    have hit := st.2.1
    rw [e1] at hit
    exact next_end hh hit fun h' tk he => q h' tk fun b o hb eo => he b o (fun z => hb (by simp [z])) eo
  self := fun _ _ _ _ st q => iter_self st.2.1 q
theorem hint_rev {I t : Addr} {its : Array Value} {Q : Bool → Shared → Prop} (hI : IsRevT s.heap I t ((its.size : Int) - 1)) (ht : IsTup s.heap t its) (hz : its.size ≤ sizeLine) (q : ∀ b tk, Q b { s with toks := tk }) : wpAny (model prog w) A (Builtin.List.listLengthHint (.ref I)) Q E s := by
  unfold Builtin.List.listLengthHint
  refine wpAny_bind (wpAny_specialOf hI.ty no_len ?_)
  try dsimp only
  refine wpAny_ite_split (fun h => absurd h (by decide)) (fun _ => ?_)
  refine wpAny_ite_split (fun h => absurd h (by decide)) (fun _ => ?_)
  refine wpAny_bind (wpAny_specialOf hI.ty rv_hint.lookup ?_)
  generalize hid : ("reversed.__length_hint__" : String) = id0
  wp_delta
  rw [show splitId id0 = some ("reversed", "__length_hint__") from by subst hid; decide +kernel]
  subst hid
  refine wpAny_bind (wpAny_isInstance (T := "reversed") (b := true) hI.ty rv_rv ?_)
  refine wpAny_ite_split (fun h => absurd h (by decide)) (fun _ => ?_)
  refine wpAny_ite_split (fun h => absurd h (by decide +kernel)) (fun _ => ?_)
  refine wpAny_bind (wpAny_rule ?_)
  refine wpAny_bind (wpAny_of_eq (rv_hint.bind _) ?_)
  have hsl : sizeLine = 16777216 := sizeLine_eq
  have hfit : (its.size : Int) < 2 ^ 63 := by omega
  obtain ⟨o, ho, hc, hd⟩ := id hI
  refine wpAny_bind (wpAny_attempt (wpAny_call_entry rv_hint hI.ty en_hint ?_ (ar_hint _)))
  unfold Builtin.«reversed.__length_hint__»
  refine wpAny_bind (wpAny_of_eq (a := Value.ref I) rfl ?_)
  refine wpAny_bind (wpAny_field ho hd (x := .ref t) rfl ?_)
  rw [if_neg (by exact Bool.false_ne_true)]
  refine wpAny_bind (len_tuple ht hfit ?_)
  refine wpAny_bind (wpAny_of_eq (a := some (its.size : Int)) rfl ?_)
  try dsimp only
  refine wpAny_bind (wpAny_field (s := { s with toks := s.toks + 1 + 1 }) ho hd (x := rawInt ((its.size : Int) - 1)) rfl ?_)
  show wpAny _ _ (if (its.size : Int) < (its.size : Int) - 1 + 1 then _ else _) _ _ _
  rw [if_neg (by omega)]
  refine wpAny_bind (wpAny_mkInt (wpAny_pure ⟨_, rfl, ?_⟩))
  refine wpAny_bind (wpAny_of_eq (a := some ((its.size : Int) - 1 + 1)) rfl ?_)
  try dsimp only
  refine wpAny_ite_split (fun h => absurd h ?_) (fun _ => ?_)
  · unfold Builtin.List.listFitsIndex
    simp
    omega
  refine wpAny_ite_split (fun h => absurd h (by omega)) (fun _ => ?_)
  refine wpAny_ite_split (fun h => absurd h ?_) (fun _ => ?_)
  · unfold Builtin.List.listTooLong
    simp
    omega
  exact wpAny_pure (q _ _)
end
end RV
set_option Elab.async false
set_option linter.all false
set_option maxRecDepth 100000
set_option maxHeartbeats 4000000
namespace RV
open PySem PySem.Spec PyProof.Rows
section
variable {prog : Program} {w : World} {A : Around} {E : Value → Shared → Prop} {s : Shared}
noncomputable def StR (I t : Addr) (its : Array Value) (i : Nat) (h : Heap) : Prop := i ≤ its.size ∧ IsRevT h I t ((its.size : Int) - 1 - (i : Int)) ∧ IsTup h t its
noncomputable def PR (its : Array Value) (i : Nat) (v : Value) : Prop := its[its.size - 1 - i]? = some v
theorem StR.move {I t : Addr} {its : Array Value} {i : Nat} {h h' : Heap} (x : StR I t its i h) (k : ∀ b o, b = I ∨ b = t → h.get? b = some o → h'.get? b = some o) : StR I t its i h' :=
  ⟨x.1, x.2.1.move fun o e => k I o (.inl rfl) e, IsTup.move x.2.2 fun o e => k t o (.inr rfl) e⟩
theorem extend_rev {R : Result → Shared → Prop} (hh : A.handled = none) {I t S : Addr} {its : Array Value} {res : Value} {c₀ : Nat} (hne : t ≠ I) (hSI : S ≠ I) (hSt : S ≠ t) (hz : its.size ≤ sizeLine) (st : StR I t its 0 s.heap)
    (hS : s.heap.get? S = some { cls := .type "list", data := .seq #[] c₀ })
    (q : ∀ h' tk acc c, (∀ b o, b ≠ S → b ≠ I → s.heap.get? b = some o → h'.get? b = some o) → h'.get? S = some { cls := .type "list", dict := none, data := .seq acc c, slots := #[] } → ItemsOf (PR its) acc its.size → R (.ok (.ret res)) { s with heap := h', toks := tk }) :
    wpAny (model prog w) A.in1 (Builtin.List.listExtendWith (.ref S) (.ref I) res)
      (fun fin s' => match fin with | .done f => R (.ok f) s' | .again c' => c'.quiet = true ∧ codeAny (model prog w) A c' R s') (fun e s' => R (.error e) s') s := by
  have W := (walks_rev (prog := prog) (w := w) (A := A.in1) hh I t hne its hz).toS
  have hSf : S ∉ [I, t] := by simp [hSI, hSt]
  have ty : s.TypeIs (.ref I) "reversed" := st.2.1.ty
  have rest : ∀ (h : Heap) (c tk : Nat), StR I t its 0 h → (∀ b o, b ≠ S → s.heap.get? b = some o → h.get? b = some o) → h.get? S = some { cls := .type "list", data := .seq #[] c } → codeAny (model prog w) A (.builtin "list.extend.loop" ⟨[.ref S, .ref I, res], []⟩) R { s with heap := h, toks := tk } := fun h c tk st' keep hS' => by
    refine codeAny_extend_loopS W hz S hSf res its.size 0 _ #[] c rfl (Nat.zero_le _) st' hS' (ItemsOf.nil _) fun s' acc c' hm hS2 hacc => ?_
    rw [Moved.eq_with hm]
    refine q s'.heap s'.toks acc c' (fun b o hb hbI e => hm.heap b o (fun z => ?_) (keep b o hb e)) hS2 hacc
    rcases List.mem_cons.mp z with z | z
    · exact hb z
    · exact hbI (List.mem_singleton.mp z)
  unfold Builtin.List.listExtendWith
  refine wpAny_bind (wpAny_typeOf ty ?_)
  have n1 : Builtin.List.listSameRef (.ref S) (.ref I) = false := by simp [Builtin.List.listSameRef, hSI]
  have n2 : (Value.type "reversed" == Value.type "list") = false := by decide
  have n3 : (Value.type "reversed" == Value.type "tuple") = false := by decide
  simp only [n1, n2, n3, Bool.or_false, Bool.false_eq_true, if_false]
  refine wpAny_bind (iter_self st.2.1 ?_)
  refine wpAny_bind (wpAny_holding (hint_rev (its := its) (by have := st.2.1; simpa using this) st.2.2 hz fun b tk => ?_))
  refine wpAny_ite_split (fun _ => ?_) (fun _ => wpAny_pure ⟨plainId_quiet PySem.F.plain_extend_loop _, rest _ c₀ _ st (fun b o _ e => e) hS⟩)
  refine wpAny_bind (wpAny_rule (wpAny_bind ?_))
  show wpAny _ _ (updateSeq S (·.push .none) >>= fun _ => updateSeq S (·.pop)) _ _ _
  refine wpAny_bind (wpAny_updateSeq (s := { s with toks := tk }) hS rfl ?_)
  have hS2 := Heap.get?_update_self (Obj.mapSeq (·.push Value.none)) hS rfl
  refine wpAny_updateSeq (hz := by seq_fits) hS2 rfl ?_
  have hS3 := Heap.get?_update_self (Obj.mapSeq (·.pop)) hS2 rfl
  have oth : ∀ b o, b ≠ S → s.heap.get? b = some o → ((s.heap.update S (Obj.mapSeq (·.push Value.none))).update S (Obj.mapSeq (·.pop))).get? b = some o := fun b o hb e =>
    (Heap.get?_update_other _ _ (Ne.symm hb)).trans ((Heap.get?_update_other _ _ (Ne.symm hb)).trans e)
  refine wpAny_pure ⟨plainId_quiet PySem.F.plain_extend_loop _, rest _ _ _ (st.move fun b o hb e => oth b o (fun z => ?_) e) oth hS3⟩
  rcases hb with y | y
  · exact hSI (z.symm.trans y)
  · exact hSt (z.symm.trans y)
theorem init_rev {R : Result → Shared → Prop} (hh : A.handled = none) {I t S : Addr} {its : Array Value} (hne : t ≠ I) (hSI : S ≠ I) (hSt : S ≠ t) (hz : its.size ≤ sizeLine) (st : StR I t its 0 s.heap)
    (hS : s.heap.get? S = some { cls := .type "list", data := .seq #[] })
    (q : ∀ h' tk acc c, (∀ b o, b ≠ S → b ≠ I → s.heap.get? b = some o → h'.get? b = some o) → h'.get? S = some { cls := .type "list", dict := none, data := .seq acc c, slots := #[] } → ItemsOf (PR its) acc its.size → R (.ok (.ret .none)) { s with heap := h', toks := tk }) :
    wpAny (model prog w) A.in1 (Builtin.«list.__init__» ⟨[.ref S, .ref I], []⟩)
      (fun fin s' => match fin with | .done f => R (.ok f) s' | .again c' => c'.quiet = true ∧ codeAny (model prog w) A c' R s') (fun e s' => R (.error e) s') s := by
  show wpAny _ A.in1 (Builtin.List.listItems (.ref S) >>= fun old => Builtin.List.listUpdate (.ref S) (fun _ => #[]) >>= fun _ => letGo old.toList.reverse >>= fun _ => Builtin.List.listExtendWith (.ref S) (.ref I) .none) _ _ s
  unfold Builtin.List.listItems
  refine wpAny_bind (wpAny_bind (wpAny_seqItems hS rfl (wpAny_pure ?_)))
  show wpAny _ A.in1 (updateSeq S (fun _ => #[]) >>= fun _ => letGo (#[] : Array Value).toList.reverse >>= fun _ => Builtin.List.listExtendWith (.ref S) (.ref I) .none) _ _ s
  refine wpAny_bind (wpAny_updateSeq hS rfl (wpAny_bind (wpAny_letGo ?_)))
  have oth : ∀ b o, b ≠ S → s.heap.get? b = some o → (s.heap.update S (Obj.mapSeq (fun _ => (#[] : Array Value)))).get? b = some o := fun b o hb e => (Heap.get?_update_other _ _ (Ne.symm hb)).trans e
  refine extend_rev hh hne hSI hSt hz (st.move fun b o hb e => oth b o (fun z => ?_) e) (Heap.get?_update_self (Obj.mapSeq (fun _ => (#[] : Array Value))) hS rfl) fun h' tk acc c keep hS' hacc => q h' tk acc c (fun b o hb hbI e => keep b o hb hbI (oth b o hb e)) hS' hacc
  rcases hb with y | y
  · exact hSI (z.symm.trans y)
  · exact hSt (z.symm.trans y)
theorem list_rev {I t : Addr} {its : Array Value} {Q : Value → Shared → Prop} (hh : A.handled = none) (hne : t ≠ I) (hz : its.size ≤ sizeLine) (st : StR I t its 0 s.heap)
    (q : ∀ h' tk acc c, (∀ b o, b ≠ I → s.heap.get? b = some o → h'.get? b = some o) → h'.get? s.heap.objs.size = some { cls := .type "list", dict := none, data := .seq acc c, slots := #[] } → ItemsOf (PR its) acc its.size → Q (.ref s.heap.objs.size) { s with heap := h', toks := tk }) :
    wpAny (model prog w) A (call (.type "list") [.ref I]) Q E s := by
  have hI : I < s.heap.objs.size := by
    obtain ⟨o, e, _⟩ := st.2.1
    exact Heap.lt_size e
  have ht : t < s.heap.objs.size := by
    obtain ⟨o, e, _⟩ := st.2.2
    exact Heap.lt_size e
  refine callType_codes (Q₁ := fun obj s₁ => obj = .ref s.heap.objs.size ∧ s₁ = { s with heap := s.heap.push { cls := .type "list", data := .seq #[] } }) F.called_list (F.typeCall_list_1 _) F.entry_list_init (code_list_new _ ⟨rfl, rfl⟩) fun obj s₁ e₁ => ?_
  obtain ⟨rfl, rfl⟩ := e₁
  have hS : (s.heap.push { cls := .type "list", data := .seq #[] }).get? s.heap.objs.size = some { cls := .type "list", data := .seq #[] } := Heap.get?_push_size _ rfl
  refine ⟨⟨_, hS, rfl⟩, F.args_list_init_2 _ _, init_rev (A := A.in1) hh hne (Nat.ne_of_gt hI) (Nat.ne_of_gt ht) hz (st.move fun b o _ e => Heap.get?_push_of_some _ e) hS fun h' tk acc c keep hS' hacc => ?_⟩
  exact ⟨rfl, q h' tk acc c (fun b o hb e => keep b o (Nat.ne_of_lt (Heap.lt_size e)) hb (Heap.get?_push_of_some _ e)) hS' hacc⟩
end
end RV
set_option Elab.async false
set_option linter.all false
set_option maxRecDepth 100000
set_option maxHeartbeats 4000000
namespace L2
open PySem PySem.Spec PyProof.Rows PySem.W RV
theorem vals_at : ∀ {xs : List V} {its : List Value} {i : Nat} {v : Value}, Vals xs its → its[i]? = some v → ∃ x, xs[i]? = some x ∧ RelV x v
  | _, _, _, _, .nil, e => by simp at e
  | _, _, 0, _, .cons r _, e => by simp at e; subst e; exact ⟨_, rfl, r⟩
  | _, _, i + 1, _, .cons _ t, e => by
    obtain ⟨x, h1, h2⟩ := vals_at (i := i) t (by simpa using e)
    exact ⟨x, by simpa using h1, h2⟩
theorem vals_by : ∀ {xs : List V} {us : List Value}, us.length = xs.length → (∀ (j : Nat) (u : Value), us[j]? = some u → ∃ x, xs[j]? = some x ∧ RelV x u) → Vals xs us
  | [], [], _, _ => .nil
  | [], _ :: _, h, _ => by simp at h
  | _ :: _, [], h, _ => by simp at h
  | x :: xs, u :: us, h, k => by
    obtain ⟨y, e, r⟩ := k 0 u rfl
    have e' : x = y := by simpa using e
    subst e'
    exact .cons r (vals_by (by simpa using h) fun j v hj => by simpa using k (j + 1) v (by simpa using hj))
theorem vals_rev {xs : List V} {its : Array Value} {acc : Array Value} (hv : Vals xs its.toList) (ha : ItemsOf (PR its) acc its.size) : Vals xs.reverse acc.toList := by
  have hl : xs.length = its.size := by rw [hv.length, Array.length_toList]
  refine vals_by (by rw [Array.length_toList, ha.1, List.length_reverse, hl]) fun j u e => ?_
  have hj : j < its.size := by
    rw [← ha.1, ← Array.length_toList]
    exact (List.getElem?_eq_some_iff.mp e).1
  have hp : its[its.size - 1 - j]? = some u := ha.2 j u (by rw [← Array.getElem?_toList]; exact e)
  obtain ⟨x, h1, h2⟩ := vals_at (i := its.size - 1 - j) hv (by rw [Array.getElem?_toList]; exact hp)
  refine ⟨x, ?_, h2⟩
  rw [List.getElem?_reverse (by omega), hl]
  exact h1
section
variable {X : Cx} {e : Expr} {te : TE} {pos pos2 p p2 : Pos}
noncomputable def tLRev (K : PySem.W.Frag) (te : TE) : TE := fun σ H Q => te σ H fun x H1 => ∃ a xs, x = .ref a ∧ SqT K H1 a xs ∧ ∀ l, H1 l = none → Q (.ref l) (upd H1 l (.lst xs.reverse))
theorem ev_rev (he : PE X e te) (gR : Gl X "reversed") (mR : X.mg "reversed" = none) (hs : starEach [e] X.env = [(false, eval e X.env)] := by rfl)
    {pins : List (Addr × Obj)} {s : Shared} {σ : St} {H : Hp} {R : VK} {Q : Value → Shared → Prop} (I : Inv X pins σ H s) (h : te σ H R)
    (k : ∀ x H1 s1 a xs its tk, Inv X pins σ H1 s1 → R x H1 → x = .ref a → Vals xs its → IsTup s1.heap a its.toArray → its.toArray.size ≤ sizeLine → SqT X.K H1 a xs → Q (.ref s1.heap.objs.size) { s1 with heap := s1.heap.push (revT a ((its.toArray.size : Int) - 1)), toks := tk })
    (kr : ∀ x H1, R x H1 → ∃ a xs, x = .ref a ∧ SqT X.K H1 a xs) :
    wpAny (model X.prog X.w) X.A (eval (.Call (.Name "reversed" p2) [e] [] pos2) X.env) Q X.xe s := by
  refine wpAny_Call_Name_kw (ld_blt I gR mR boot_reversed ?_ (by decide) (by decide))
  refine PyProof.Rows.callWith_type1 ?_ hs (by rfl)
  rw [hs]
  refine Calls.spliced_cons (thn (he pins s σ H _ I h) fun u s1 ⟨x, H1, I1, r1, q1⟩ => ?_)
  obtain ⟨a, xs, rfl, ht⟩ := kr x H1 q1
  cases r1
  obtain ⟨its, hv, htup, hz⟩ := I1.tuple ht
  have hz' : its.toArray.size ≤ sizeLine := by have := hv.length; simp; omega
  refine Calls.spliced_nil ?_
  exact call_rev htup hz' fun tk => k _ H1 s1 a xs its tk I1 q1 rfl hv htup hz' ht
theorem pe_lrev (hc : X.calm = true) (he : PE X e te) (gL : Gl X "list") (mL : X.mg "list" = none) (gR : Gl X "reversed") (mR : X.mg "reversed" = none) (hs : starEach [e] X.env = [(false, eval e X.env)] := by rfl) (hs2 : starEach [.Call (.Name "reversed" p2) [e] [] pos2] X.env = [(false, eval (.Call (.Name "reversed" p2) [e] [] pos2) X.env)] := by rfl) :
    PE X (.Call (.Name "list" p) [.Call (.Name "reversed" p2) [e] [] pos2] [] pos) (tLRev X.K te) := by
  intro pins s σ H Q I h
  refine wpAny_Call_Name_kw (ld_blt I gL mL boot_list ?_ (by decide) (by decide))
  refine PyProof.Rows.callWith_type1 ?_ hs2 (by rfl)
  rw [hs2]
  refine Calls.spliced_cons (ev_rev he gR mR hs I h (fun x H1 s1 a xs its tk I1 q1 ex hv htup hz ht => ?_) fun x H1 q => by obtain ⟨a, xs, e1, e2, _⟩ := q; exact ⟨a, xs, e1, e2⟩)
  obtain ⟨a', ys, e1, e2, q⟩ := q1
  have ea : a = a' := V.ref.inj (ex.symm.trans e1)
  subst ea
  have exy := I1.tuple_inj ht e2
  subst exy
  refine Calls.spliced_nil ?_
  have hne : a ≠ s1.heap.objs.size := Nat.ne_of_lt htup.lt
  have st : StR s1.heap.objs.size a its.toArray 0 (s1.heap.push (revT a ((its.toArray.size : Int) - 1))) := ⟨Nat.zero_le _, ⟨_, Heap.get?_push_size _ rfl, rfl, by simp [revT]⟩, htup.push _⟩
  refine list_rev (s := { s1 with heap := s1.heap.push (revT a ((its.toArray.size : Int) - 1)), toks := tk }) (I1.ok.hd hc) hne hz st fun h' tk' acc c keep hS hacc => ?_
  have hk : ∀ b u, s1.heap.get? b = some u → h'.get? b = some u := fun b u e => keep b u (Nat.ne_of_lt (Heap.lt_size e)) (Heap.get?_push_of_some _ e)
  have hv' : Vals xs its.toArray.toList := by simpa using hv
  have hr := vals_rev hv' hacc
  have hp : s1.heap.objs.size ≤ (s1.heap.push (revT a ((its.toArray.size : Int) - 1))).objs.size := by rw [Heap.size_push]; omega
  refine ⟨.ref _, _, I1.laid (t' := tk') hk hp (show ObjOk X.prog X.w _ h' _ (.lst xs.reverse) from ⟨?_, acc.toList, c, hr, by simpa using hS⟩), rfl, q _ (I1.hok.fresh hp)⟩
  rw [hr.length, Array.length_toList, hacc.1]
  exact hz
end
end L2
set_option Elab.async false
set_option linter.all false
set_option maxRecDepth 100000
set_option maxHeartbeats 4000000
namespace L2
open PySem PySem.Spec PyProof.Rows
section
variable {P : Program} {w : World} {A : Around} {E : Value → Shared → Prop} {s : Shared} {z TI TO i1 i2 l1 l2 : Addr} {xs ys : Array Value} {I1 I2 : Nat → Heap → Prop} {S1 S2 : Heap → Prop}
end
section
variable {X : Cx} {elts : List Expr} {k : Nat} {tpos : Pos}
end
end L2
set_option Elab.async false
set_option linter.all false
set_option maxRecDepth 100000
set_option maxHeartbeats 4000000
namespace L2
open PySem PySem.Spec PyProof.Rows PySem.W
section
variable {P : Program} {w : World} {A : Around} {E : Value → Shared → Prop} {s : Shared} {d : Addr} {es : Array DictEntry} {ep : Nat}
end
section
variable {X : Cx}
end
end L2
set_option Elab.async false
set_option linter.all false
set_option maxRecDepth 100000
set_option maxHeartbeats 4000000
namespace L2
open PySem PySem.Spec PyProof.Rows
section
variable {X : Cx}
end
end L2
set_option Elab.async false
set_option linter.all false
set_option maxRecDepth 100000
set_option maxHeartbeats 4000000
namespace RG
open PySem PySem.Spec PyProof.Rows
section
variable {prog : Program} {w : World} {A : Around} {E : Value → Shared → Prop} {s : Shared}
variable {I : Addr} {fp : List Addr} {n : Nat} {P : Nat → Value → Prop} {St : Nat → Heap → Prop} {T : String}
end
end RG
set_option Elab.async false
set_option linter.all false
set_option maxRecDepth 100000
set_option maxHeartbeats 4000000
namespace RG
open PySem PySem.Spec PyProof.Rows
section
variable {prog : Program} {w : World} {A : Around} {E : Value → Shared → Prop} {s : Shared}
end
end RG
namespace L2
open PySem PySem.Spec PyProof.Rows PySem.W RG
noncomputable def rngV (n : Nat) : List V := (List.range n).map fun i => V.int ((i : Nat) : Int)
theorem rngV_at {n i : Nat} (h : i < n) : (rngV n)[i]? = some (.int (i : Int)) := by
  unfold rngV
  rw [List.getElem?_map, List.getElem?_range h]
  rfl
theorem rngV_len (n : Nat) : (rngV n).length = n := by unfold rngV; rw [List.length_map, List.length_range]
section
variable {X : Cx} {e : Expr} {te : TE} {pos pos2 pos3 p p2 p3 : Pos}
theorem ev_range (he : PE X e te) (gG : Gl X "range") (mG : X.mg "range" = none) (hs : starEach [e] X.env = [(false, eval e X.env)] := by rfl)
    {pins : List (Addr × Obj)} {s : Shared} {σ : St} {H : Hp} {R : VK} {Q : Value → Shared → Prop} (I : Inv X pins σ H s) (h : te σ H R) (kr : ∀ x H1, R x H1 → ∃ m : Int, x = .int m)
    (k : ∀ m H1 s1 t u v tk, Inv X pins σ H1 s1 → R (.int m) H1 → Q (.ref s1.heap.objs.size) { s1 with heap := s1.heap.push { cls := .type "range", data := .fields #[.int 0 t, .int m u, .int 1 v] }, toks := tk }) :
    wpAny (model X.prog X.w) X.A (eval (.Call (.Name "range" p3) [e] [] pos3) X.env) Q X.xe s := by
  refine wpAny_Call_Name_kw (ld_blt I gG mG boot_range ?_ (by decide) (by decide))
  refine PyProof.Rows.callWith_type1 ?_ hs (by rfl)
  rw [hs]
  refine Calls.spliced_cons (thn (he pins s σ H _ I h) fun u s1 ⟨x, H1, I1, r1, q1⟩ => ?_)
  obtain ⟨m, rfl⟩ := kr x H1 q1
  obtain ⟨t, rfl⟩ := r1
  exact Calls.spliced_nil (call_range_1 (k m H1 s1 _ _ _ _ I1 q1))
end
end L2
set_option Elab.async false
set_option linter.all false
set_option maxRecDepth 100000
set_option maxHeartbeats 4000000
namespace L2
open PySem PySem.Spec PyProof.Rows PySem.W RG
open AutoSeq1 (wpAny_loadPart')
section
variable {prog : Program} {w : World} {A : Around} {E : Value → Shared → Prop} {s : Shared}
theorem iadd_rng {R : Result → Shared → Prop} {S r : Addr} {b : Int} {t u v : Tok} {n c₀ : Nat} (hh : A.handled = none) (hr : IsRange s.heap r 0 b 1 t u v) (hsmall : Builtin.Range.small 0 b 1 = true) (hn : Builtin.Range.rangeSize 0 b 1 = n) (hlen : n ≤ 1000) (hS : s.heap.get? S = some { cls := .type "list", data := .seq #[] c₀ })
    (q : ∀ h' tk acc' c', (∀ b o, b ≠ S → s.heap.get? b = some o → h'.get? b = some o) → h'.get? S = some { cls := .type "list", dict := none, data := .seq acc' c', slots := #[] } → ItemsOf (fun i v => ∃ t, v = .int (0 + i * 1) t) acc' n → R (.ok (.ret (.ref S))) { s with heap := h', toks := tk }) :
    codeAny (model prog w) A (.builtin "list.__iadd__" ⟨[.ref S, .ref r], []⟩) R s := by
  apply codeAny_builtin F.entry_list_iadd
  rw [Around.under_plainId F.plain_list_iadd _]
  exact wpAny_extend_range hh hr hsmall hn (by omega) S (.ref S) c₀ hS q
theorem collect_rng {Q : List Value → Shared → Prop} {r : Addr} {b : Int} {t u v : Tok} {n : Nat} (hh : A.handled = none) (hr : IsRange s.heap r 0 b 1 t u v) (hsmall : Builtin.Range.small 0 b 1 = true) (hn : Builtin.Range.rangeSize 0 b 1 = n) (hlen : n ≤ 1000)
    (q : ∀ (h' : Heap) (tk : Nat) (acc : Array Value), (∀ c o, s.heap.get? c = some o → h'.get? c = some o) → ItemsOf (fun i v => ∃ t, v = .int (0 + i * 1) t) acc n → Q acc.toList { s with heap := h', toks := tk }) : wpAny (model prog w) A (collect (.ref r)) Q E s := by
  unfold collect
  apply wpAny_bind
  apply wpAny_runValue
  apply codeAny_builtin F.entry_proto_collect
  rw [Around.under_plainId F.plain_proto_collect _]
  show wpAny _ A.in1 (newList [] >>= fun l => again (.builtin "list.__iadd__" ⟨[l, .ref r], []⟩)) _ _ s
  apply wpAny_bind
  refine wpAny_newObj_type ?_
  refine wpAny_pure ⟨plainId_quiet F.plain_list_iadd _, iadd_rng (c₀ := 0) hh (Heap.get?_push_of_some _ hr) hsmall hn hlen (Heap.get?_push_size _ rfl) fun h' tk acc c' k1 k2 k3 => ?_⟩
  apply wpAny_bind
  refine wpAny_load k2 ?_
  refine wpAny_pure (q h' tk acc (fun c o e => k1 c o (fun z => ?_) (Heap.get?_push_of_some _ e)) k3)
  rw [z] at e
  exact Nat.lt_irrefl _ (Heap.lt_size e)
theorem tuple_new_rng (r : Addr) (b : Int) (t u v : Tok) (n : Nat) (hsmall : Builtin.Range.small 0 b 1 = true) (hn : Builtin.Range.rangeSize 0 b 1 = n) (hlen : n ≤ 1000) :
    Meets (Builtin.«tuple.__new__» ⟨[.type "tuple", .ref r], []⟩) (fun A R s => A.handled = none ∧ IsRange s.heap r 0 b 1 t u v ∧ ∀ (h' : Heap) (tk : Nat) (acc : Array Value), (∀ c o, s.heap.get? c = some o → h'.get? c = some o) → ItemsOf (fun i v => ∃ t, v = .int (0 + i * 1) t) acc n →
      R (.ok (.ret (.ref h'.objs.size))) { s with heap := h'.push { cls := .type "tuple", data := .seq acc }, toks := tk }) :=
  .of_wp fun prog w A R s h => by
    obtain ⟨hh, hr, q⟩ := h
    have hsub := sub_tuple_self
    have hinit := init_tuple_lookup
    have hmh := madeHere_tuple
    have hT : s.TypeIs (.ref r) "range" := ⟨_, hr, rfl⟩
    have hh1 : A.in1.handled = none := hh
    wp_walk using wpAny_typeOf hT, collect_rng hh1 hr hsmall hn hlen
    intro h' tk acc hk hacc
    show wpAny _ _ (Builtin.Tuple.tupleExact acc.toList.toArray >>= fun v => ret v) _ _ _
    unfold Builtin.Tuple.tupleExact
    apply wpAny_bind
    have e : acc.toList.toArray = acc := by simp
    rw [e]
    refine wpAny_newObj_type ?_ (by show acc.size ≤ sizeLine; rw [hacc.1, sizeLine_eq]; omega)
    exact wpAny_pure ⟨_, rfl, q h' tk acc hk hacc⟩
end
section
variable {X : Cx} {e : Expr} {te : TE} {pos pos3 p p3 : Pos}
noncomputable def tTRng (te : TE) : TE := fun σ H Q => te σ H fun x H1 => ∃ n : Nat, x = .int (n : Int) ∧ n ≤ 1000 ∧ ∀ l, H1 l = none → Q (.ref l) (upd H1 l (.tup (rngV n)))
theorem pe_trng (hc : X.calm = true) (he : PE X e te) (gL : Gl X "tuple") (mL : X.mg "tuple" = none) (gG : Gl X "range") (mG : X.mg "range" = none) (hs : starEach [e] X.env = [(false, eval e X.env)] := by rfl) (hs2 : starEach [.Call (.Name "range" p3) [e] [] pos3] X.env = [(false, eval (.Call (.Name "range" p3) [e] [] pos3) X.env)] := by rfl) :
    PE X (.Call (.Name "tuple" p) [.Call (.Name "range" p3) [e] [] pos3] [] pos) (tTRng te) := by
  intro pins s σ H Q I h
  refine wpAny_Call_Name_kw (ld_blt I gL mL boot_tuple ?_ (by decide) (by decide))
  refine PyProof.Rows.callWith_type1 ?_ hs2 (by rfl)
  rw [hs2]
  refine Calls.spliced_cons (ev_range he gG mG hs I h (fun x H1 q => by obtain ⟨n, e1, _⟩ := q; exact ⟨_, e1⟩) fun m H1 s1 t u v tk I1 q1 => ?_)
  obtain ⟨n, e1, hn, q⟩ := q1
  have em : m = (n : Int) := V.int.inj e1
  subst em
  refine Calls.spliced_nil ?_
  have hsz : Builtin.Range.rangeSize 0 (n : Int) 1 = (n : Int) := by
    unfold Builtin.Range.rangeSize
    rw [if_pos (by decide)]
    split <;> omega
  refine callType_new F.called_tuple (by decide) (F.typeCall_tuple_1 _) (F.newCall_tuple_1 _) (fun obj => F.args_object_init_2 obj _) F.entry_tuple_new (tuple_new_rng _ (n : Int) t u v n (small_one (by omega) (by omega) (by omega) (by omega)) hsz hn)
    ⟨I1.ok.hd hc, Heap.get?_push_size _ rfl, fun h' tk' acc hk hacc => ⟨⟨_, Heap.get?_push_size _ rfl, rfl⟩, ?_⟩⟩
  have hk1 : ∀ b w, s1.heap.get? b = some w → (h'.push { cls := .type "tuple", data := .seq acc }).get? b = some w := fun b w e => Heap.get?_push_of_some _ (hk b w (Heap.get?_push_of_some _ e))
  have hp : s1.heap.objs.size ≤ h'.objs.size := by
    have h1 := Heap.lt_size (hk _ _ (Heap.get?_push_size s1.heap (o := { cls := .type "range", data := .fields #[.int 0 t, .int (n : Int) u, .int 1 v] }) rfl))
    exact Nat.le_of_lt h1
  have hv : Vals (rngV n) acc.toList := vals_by (by rw [Array.length_toList, hacc.1, rngV_len]) fun j w e => by
    have hj : j < n := by
      rw [← hacc.1, ← Array.length_toList]
      exact (List.getElem?_eq_some_iff.mp e).1
    obtain ⟨t', rfl⟩ := hacc.2 j w (by rw [← Array.getElem?_toList]; exact e)
    refine ⟨_, rngV_at hj, t', ?_⟩
    congr 1
    omega
  have hsl : sizeLine = 16777216 := sizeLine_eq
  exact ⟨.ref h'.objs.size, _, I1.laid (t' := tk') hk1 hp (show ObjOk X.prog X.w _ _ _ (.tup (rngV n)) from ⟨by rw [rngV_len]; omega, acc.toList, hv, ⟨_, Heap.get?_push_size _ rfl, rfl, 0, by simp⟩⟩), rfl, q _ (I1.hok.fresh hp)⟩
end
end L2
set_option Elab.async false
set_option linter.all false
set_option maxRecDepth 100000
set_option maxHeartbeats 4000000
namespace L2
open PySem PySem.Spec PyProof.Rows PySem.W
section
variable {X : Cx} {e : Expr} {te : TE} {pos pos3 p p3 : Pos}
end
end L2
set_option Elab.async false
set_option linter.all false
set_option maxRecDepth 100000
set_option maxHeartbeats 4000000
namespace L2
open PySem PySem.Spec PyProof.Rows PySem.W
section
variable {prog : Program} {w : World} {A : Around} {R : Result → Shared → Prop} {it best : Addr} {fp wr : List Addr} {n : Nat} {P : Nat → Value → Prop} {St : Nat → Heap → Prop}
noncomputable def KeptBut (wr : List Addr) (best : Addr) (h h' : Heap) : Prop := ∀ b o, b ∉ wr → b ≠ best → h.get? b = some o → h'.get? b = some o
theorem KeptBut.trans {wr : List Addr} {best : Addr} {h1 h2 h3 : Heap} (a : KeptBut wr best h1 h2) (b : KeptBut wr best h2 h3) : KeptBut wr best h1 h3 := fun x o m1 m2 e => b x o m1 m2 (a x o m1 m2 e)
structure MinW (prog : Program) (w : World) (A : Around) (it best : Addr) (fp wr : List Addr) (n : Nat) (P : Nat → Value → Prop) (St : Nat → Heap → Prop) (G : Heap → Prop) (lt : Nat → Nat → Bool) : Prop where
  wk : Walks prog w A it fp wr n P St
  out : best ∉ fp
  keep : ∀ h h', KeptBut wr best h h' → G h → G h'
  cmp : ∀ i j x y (s : Shared) (Q E : Value → Shared → Prop), G s.heap → P i x → P j y → Q (.bool (lt i j)) s → wpAny (model prog w) A (richCompare .Lt x y) Q E s
noncomputable def bestObj (vs : Array Value) (c : Nat) : Obj := { cls := .type "list", dict := none, data := .seq vs c, slots := #[] }
theorem name_min : (toString "min" ++ toString ".loop" : String) = "min.loop" := by decide
theorem min_rest {G : Heap → Prop} {lt : Nat → Nat → Bool} (M : MinW prog w A.in1 it best fp wr n P St G lt) : ∀ (m j c : Nat) (v : Value) (s : Shared), j + 1 + m = n → G s.heap → St (j + 1) s.heap → P (argBest lt j) v → s.heap.get? best = some (bestObj #[v, v] c) →
    (∀ u h' tk, P (argBest lt (n - 1)) u → KeptBut wr best s.heap h' → R (.ok (.ret u)) { s with heap := h', toks := tk }) → codeAny (model prog w) A (.builtin "min.loop" ⟨[.ref it, .none, .ref best], []⟩) R s
  | 0, j, c, v, s, hm, hG, hst, hv, hb, q => by
    have hbw : best ∉ wr := fun z => M.out (M.wk.sub _ z)
    refine codeAny_builtin PySem.F.entry_min_loop ?_
    rw [Around.under_plainId PySem.F.plain_min_loop _]
    show wpAny _ A.in1 (seqItems? (.ref best) >>= _) _ _ s
    refine wpAny_bind (wpAny_seqItems hb rfl ?_)
    show wpAny _ A.in1 (tryCatch (pyNext (.ref it)) _ >>= _) _ _ s
    have en : j + 1 = n := by omega
    refine wpAny_bind (wpAny_tryCatch (M.wk.done s _ _ (by rw [← en]; exact hst) fun h1 tk k1 => ?_))
    show wpAny _ A.in1 (updateSeq best (fun _ => #[]) >>= _) _ _ _
    refine wpAny_bind (wpAny_updateSeq (k1 best _ hbw hb) rfl (wpAny_bind (wpAny_letGo (wpAny_pure ?_))))
    refine q v _ tk (by rw [← en]; exact hv) fun b o m1 m2 e => ?_
    exact (Heap.get?_update_other _ _ (Ne.symm m2)).trans (k1 b o m1 e)
  | m + 1, j, c, v, s, hm, hG, hst, hv, hb, q => by
    have hbw : best ∉ wr := fun z => M.out (M.wk.sub _ z)
    refine codeAny_builtin PySem.F.entry_min_loop ?_
    rw [Around.under_plainId PySem.F.plain_min_loop _]
    show wpAny _ A.in1 (seqItems? (.ref best) >>= _) _ _ s
    refine wpAny_bind (wpAny_seqItems hb rfl ?_)
    show wpAny _ A.in1 (tryCatch (pyNext (.ref it)) _ >>= _) _ _ s
    refine wpAny_bind (wpAny_tryCatch (M.wk.item (j + 1) s _ _ (by omega) hst fun x h1 tk hx st1 k1 => ?_))
    have kb1 : KeptBut wr best s.heap h1 := fun b o m1 _ e => k1 b o m1 e
    have hb1 := k1 best _ hbw hb
    have hG1 := M.keep _ _ kb1 hG
    show wpAny _ A.in1 (tryCatch (holding [x, x] (richCompare .Lt x v >>= _)) _ >>= _) _ _ _
    refine wpAny_bind (wpAny_tryCatch (wpAny_holding (wpAny_bind (M.cmp (j + 1) (argBest lt j) x v _ _ _ hG1 hx hv ?_))))
    refine wpAny_bind (wpAny_holding (wpAny_truthy_bool ?_))
    refine wpAny_bind (wpAny_letGo (wpAny_pure ?_))
    by_cases hl : lt (j + 1) (argBest lt j) = true
    · rw [hl]
      simp only [if_true]
      refine wpAny_bind (wpAny_updateSeq hb1 rfl (wpAny_bind (wpAny_letGo ?_)))
      rw [name_min]
      have k2 : KeptBut wr best h1 (h1.update best fun _ => bestObj #[x, x] (c + 1)) := fun b o m1 m2 e => (Heap.get?_update_other _ _ (Ne.symm m2)).trans e
      refine wpAny_pure ⟨plainId_quiet PySem.F.plain_min_loop _, min_rest M m (j + 1) _ x _ (by omega) (M.keep _ _ ?_ hG1) (M.wk.frame _ _ _ st1 fun b hf o e => ?_) ?_ (Heap.get?_update_self _ hb1 rfl) fun u h2 tk2 hu k3 => ?_⟩
      · exact fun b o m1 m2 e => (Heap.get?_update_other _ _ (Ne.symm m2)).trans e
      · exact (Heap.get?_update_other _ _ (fun z : best = b => M.out (by rw [z]; exact hf))).trans e
      · show P (if lt (j + 1) (argBest lt j) then j + 1 else argBest lt j) x
        rw [hl]
        exact hx
      · exact q u h2 tk2 hu fun b o m1 m2 e => k3 b o m1 m2 ((Heap.get?_update_other _ _ (Ne.symm m2)).trans (kb1 b o m1 m2 e))
    · have hl' : lt (j + 1) (argBest lt j) = false := Bool.not_eq_true _ ▸ hl
      rw [hl']
      simp only [Bool.false_eq_true, if_false]
      refine wpAny_bind (wpAny_letGo ?_)
      rw [name_min]
      refine wpAny_pure ⟨plainId_quiet PySem.F.plain_min_loop _, min_rest M m (j + 1) c v _ (by omega) hG1 st1 ?_ hb1 fun u h2 tk2 hu k3 => q u h2 tk2 hu (kb1.trans k3)⟩
      show P (if lt (j + 1) (argBest lt j) then j + 1 else argBest lt j) v
      rw [hl']
      exact hv
theorem min_first {G : Heap → Prop} {lt : Nat → Nat → Bool} (M : MinW prog w A.in1 it best fp wr n P St G lt) (hn : 0 < n) {c : Nat} {s : Shared} (hG : G s.heap) (hst : St 0 s.heap) (hb : s.heap.get? best = some (bestObj #[] c))
    (q : ∀ u h' tk, P (argBest lt (n - 1)) u → KeptBut wr best s.heap h' → R (.ok (.ret u)) { s with heap := h', toks := tk }) : codeAny (model prog w) A (.builtin "min.loop" ⟨[.ref it, .none, .ref best], []⟩) R s := by
  have hbw : best ∉ wr := fun z => M.out (M.wk.sub _ z)
  refine codeAny_builtin PySem.F.entry_min_loop ?_
  rw [Around.under_plainId PySem.F.plain_min_loop _]
  show wpAny _ A.in1 (seqItems? (.ref best) >>= _) _ _ s
  refine wpAny_bind (wpAny_seqItems hb rfl ?_)
  show wpAny _ A.in1 (tryCatch (pyNext (.ref it)) _ >>= _) _ _ s
  refine wpAny_bind (wpAny_tryCatch (M.wk.item 0 s _ _ hn hst fun x h1 tk hx st1 k1 => ?_))
  have kb1 : KeptBut wr best s.heap h1 := fun b o m1 _ e => k1 b o m1 e
  have hb1 := k1 best _ hbw hb
  show wpAny _ A.in1 (updateSeq best (fun _ => #[x, x]) >>= _) _ _ _
  refine wpAny_bind (wpAny_updateSeq hb1 rfl ?_)
  rw [name_min]
  refine wpAny_pure ⟨plainId_quiet PySem.F.plain_min_loop _, min_rest M (n - 1) 0 _ x _ (by omega) (M.keep _ _ ?_ (M.keep _ _ kb1 hG)) (M.wk.frame _ _ _ st1 fun b hf o e => ?_) hx (Heap.get?_update_self _ hb1 rfl) fun u h2 tk2 hu k3 => ?_⟩
  · exact fun b o m1 m2 e => (Heap.get?_update_other _ _ (Ne.symm m2)).trans e
  · exact (Heap.get?_update_other _ _ (fun z : best = b => M.out (by rw [z]; exact hf))).trans e
  · exact q u h2 tk2 hu fun b o m1 m2 e => k3 b o m1 m2 ((Heap.get?_update_other _ _ (Ne.symm m2)).trans (kb1 b o m1 m2 e))
end
section
variable {X : Cx}
noncomputable def PrI2 (K : PySem.W.Frag) (H : Hp) (v : V) (n : Int × Int) : Prop := ∃ t, v = .ref t ∧ SqT K H t [.int n.1, .int n.2]
noncomputable def prI2 (ns : List (Int × Int)) (i j : Nat) : Bool := HT.lexLt [(ns.getD i (0, 0)).1, (ns.getD i (0, 0)).2] [(ns.getD j (0, 0)).1, (ns.getD j (0, 0)).2]
theorem prI2_t {ns : List (Int × Int)} {i j : Nat} (h : prI2 ns i j = true) : (ns.getD i (0, 0)).1 ≤ (ns.getD j (0, 0)).1 := by
  unfold prI2 at h
  rw [HT.lexLt_cons] at h
  split at h
  · omega
  · exact Int.le_of_lt (of_decide_eq_true h)
theorem prI2_f {ns : List (Int × Int)} {i j : Nat} (h : prI2 ns i j = false) : (ns.getD j (0, 0)).1 ≤ (ns.getD i (0, 0)).1 := by
  unfold prI2 at h
  rw [HT.lexLt_cons] at h
  split at h
  · omega
  · exact Int.not_lt.mp (of_decide_eq_false h)
theorem best_le (ns : List (Int × Int)) : ∀ k, argBest (prI2 ns) k ≤ k ∧ ∀ i, i ≤ k → (ns.getD (argBest (prI2 ns) k) (0, 0)).1 ≤ (ns.getD i (0, 0)).1
  | 0 => ⟨Nat.le_refl _, fun i hi => by rw [Nat.le_zero.mp hi]; exact Int.le_refl _⟩
  | k + 1 => by
    obtain ⟨h1, h2⟩ := best_le ns k
    cases hl : prI2 ns (k + 1) (argBest (prI2 ns) k) with
    | true =>
      have e : argBest (prI2 ns) (k + 1) = k + 1 := by simp only [argBest, hl, if_true]
      rw [e]
      refine ⟨Nat.le_refl _, fun i hi => ?_⟩
      have h3 := prI2_t hl
      by_cases z : i = k + 1
      · rw [z]; exact Int.le_refl _
      · exact Int.le_trans h3 (h2 i (by omega))
    | false =>
      have e : argBest (prI2 ns) (k + 1) = argBest (prI2 ns) k := by simp only [argBest, hl, Bool.false_eq_true, if_false]
      rw [e]
      refine ⟨by omega, fun i hi => ?_⟩
      by_cases z : i = k + 1
      · rw [z]; exact prI2_f hl
      · exact h2 i (by omega)
theorem call_minP (hc : X.calm = true) (hu : X.A.units + 1 < cLine) : CallR X (.builtin "min") (fun xs H Q => ∃ (p : Addr) (vs : List V) (ns : List (Int × Int)), xs = [.ref p] ∧ SqL X.K H p vs ∧ Paired (PrI2 X.K H) vs ns ∧ ns ≠ [] ∧
    ∀ (i : Nat) (v : V) (n : Int × Int), vs[i]? = some v → ns[i]? = some n → (∀ m ∈ ns, n.1 ≤ m.1) → Q v H) := by
  intro pins s σ H xs us Q I r h
  obtain ⟨p, vs, ns, rfl, hq, hps, hne, q⟩ := h
  obtain ⟨u, rfl, rx⟩ := vals1 r
  cases rx
  obtain ⟨its, r', pl, hz⟩ := I.list hq
  have hl := pl.isList
  have hlt : p < s.heap.objs.size := by
    obtain ⟨_, e, _⟩ := hl
    exact Heap.lt_size e
  have hln : vs.length = ns.length := Paired.length hps
  have hlv : its.length = vs.length := r'.length.symm
  have hn0 : 0 < ns.length := List.length_pos_iff.mpr hne
  have hg : ∀ (i : Nat) (v : Value), its.toArray[i]? = some v → ∃ x n, vs[i]? = some x ∧ ns[i]? = some n ∧ RelV x v ∧ PrI2 X.K H x n := fun i v e => by
    have e' : its[(i : Nat)]? = some v := by rw [← e]; simp
    obtain ⟨x, hx, rv⟩ := Paired.get?' r' e'
    obtain ⟨n, hn, hp⟩ := Paired.get? hps hx
    exact ⟨x, n, hx, hn, rv, hp⟩
  refine call_function_tree PySem.F.kind_min PySem.F.plain_min PySem.F.entry_min (PySem.F.args_min1 _) ?_
  show wpAny _ X.A.in1 (Builtin.Builtins.bindParams "min" ["key", "default"] 0 ⟨[], []⟩ >>= _) _ _ s
  refine wpAny_bind (wpAny_of_eq (show Builtin.Builtins.bindParams "min" ["key", "default"] 0 ⟨[], []⟩ = pure [none, none] from rfl) ?_)
  refine wpAny_bind (wpAny_pure (wpAny_bind (wpAny_pyIter_list hl ?_)))
  refine wpAny_bind (wpAny_newObj_type ?_)
  rw [name_min]
  have hh : X.A.in1.handled = none := by simp [I.ok.hd hc]
  have hne1 : p ≠ s.heap.objs.size := Nat.ne_of_lt hlt
  refine wpAny_pure ⟨plainId_quiet PySem.F.plain_min_loop _, min_first (c := 0) (G := fun h => ∀ b o, s.heap.get? b = some o → h.get? b = some o) (lt := prI2 ns)
    ⟨Walks.list hh s.heap.objs.size p hne1 its.toArray, ?_, ?_, ?_⟩ (by rw [List.size_toArray]; omega) (fun b o e => Heap.get?_push_of_some _ (Heap.get?_push_of_some _ e)) ⟨⟨_, Heap.get?_push_of_some _ (Heap.get?_push_size _ rfl), rfl, rfl⟩, (hl.push _).push _⟩ (Heap.get?_push_size _ rfl) fun u h' tk hu' k => ?_⟩
  · rw [Heap.size_push]
    simp only [List.mem_cons, List.mem_singleton, List.not_mem_nil, or_false, not_or]
    exact ⟨Nat.ne_of_gt (Nat.lt_succ_self _), Nat.ne_of_gt (Nat.lt_succ_of_lt hlt)⟩
  · intro h h' k hG b o e
    have hb := Heap.lt_size e
    refine k b o ?_ ?_ (hG b o e)
    · rw [List.mem_singleton]; exact Nat.ne_of_lt hb
    · rw [Heap.size_push]; exact Nat.ne_of_lt (Nat.lt_succ_of_lt hb)
  · intro i j x y s' Q' E' hG hx hy q'
    obtain ⟨x1, n1, hx1, hn1, rx1, t1, rfl, st1⟩ := hg i x hx
    obtain ⟨x2, n2, hx2, hn2, rx2, t2, rfl, st2⟩ := hg j y hy
    cases rx1
    cases rx2
    obtain ⟨its1, r1, p1, _⟩ := I.tuple st1
    obtain ⟨its2, r2, p2, _⟩ := I.tuple st2
    have i1 : IntsAre its1.toArray.toList [n1.1, n1.2] := intsAre_of (ns := [n1.1, n1.2]) r1
    have i2 : IntsAre its2.toArray.toList [n2.1, n2.2] := intsAre_of (ns := [n2.1, n2.2]) r2
    have q1 : IsTup s'.heap t1 its1.toArray := by
      obtain ⟨o, e, rest⟩ := p1
      exact ⟨o, hG _ _ e, rest⟩
    have q2 : IsTup s'.heap t2 its2.toArray := by
      obtain ⟨o, e, rest⟩ := p2
      exact ⟨o, hG _ _ e, rest⟩
    have el : prI2 ns i j = HT.lexLt [n1.1, n1.2] [n2.1, n2.2] := by
      unfold prI2
      rw [List.getD_eq_getElem?_getD, List.getD_eq_getElem?_getD, hn1, hn2]
      rfl
    rw [el] at q'
    exact HT.lt_tupInts q1 q2 i1 i2 (by show X.A.in1.units < cLine; simpa using hu) q'
  · obtain ⟨x, n, hx, hn, rx, _⟩ := hg _ u hu'
    have hk : ∀ b o, s.heap.get? b = some o → h'.get? b = some o := fun b o e => by
      have hb := Heap.lt_size e
      refine k b o ?_ ?_ (Heap.get?_push_of_some _ (Heap.get?_push_of_some _ e))
      · rw [List.mem_singleton]; exact Nat.ne_of_lt hb
      · rw [Heap.size_push]; exact Nat.ne_of_lt (Nat.lt_succ_of_lt hb)
    refine ⟨x, H, I.kept hk, rx, q _ x n hx hn fun m hm => ?_⟩
    obtain ⟨i, hi⟩ := List.getElem?_of_mem hm
    have hil := (List.getElem?_eq_some_iff.mp hi).1
    have h1 := (best_le ns (its.toArray.size - 1)).2 i (by rw [List.size_toArray]; omega)
    rw [List.getD_eq_getElem?_getD, List.getD_eq_getElem?_getD, hn, hi] at h1
    exact h1
end
end L2
set_option Elab.async false
set_option linter.all false
set_option maxRecDepth 100000
set_option maxHeartbeats 4000000
namespace L2
open PySem PySem.Spec PyProof.Rows
section
variable {X : Cx}
end
end L2
set_option Elab.async false
set_option linter.all false
set_option maxRecDepth 100000
set_option maxHeartbeats 4000000
namespace L2
open PySem PySem.Spec PyProof.Rows PySem.W
section
variable {prog : Program} {w : World} {KT : Type} [DecidableEq KT] {knd : KeyKind prog w KT} {A : Around} {E : Value → Shared → Prop} {s : Shared} {r d : Addr} {kvs : List (KT × Value)} {ep : Nat}
end
theorem kv_at : ∀ {kvs : List (Key × V)} {vs : List (Key × Value)} {j : Nat} {k : Key} {x : Value}, KV kvs vs → vs[j]? = some (k, x) → ∃ p, kvs[j]? = some p ∧ p.1 = k ∧ RelV p.2 x
  | _, _, j, _, _, .nil, h => by simp at h
  | _, _, 0, _, _, .cons (a := p) (b := q) h _, e => by
    rw [List.getElem?_cons_zero] at e
    cases e
    exact ⟨p, List.getElem?_cons_zero, h.1, h.2⟩
  | _, _, j + 1, _, _, .cons (a := p) (b := q) _ r, e => by
    rw [List.getElem?_cons_succ] at e
    obtain ⟨p', h1, h2⟩ := kv_at r e
    exact ⟨p', by rw [List.getElem?_cons_succ]; exact h1, h2⟩
section
variable {X : Cx} {o : Expr} {to : TE} {apos cpos : Pos}
end
end L2
set_option Elab.async false
set_option linter.all false
set_option maxRecDepth 100000
set_option maxHeartbeats 4000000
namespace L2
open PySem PySem.Spec PyProof.Rows PySem.W
section
variable {X : Cx} {pins : List (Addr × Obj)} {σ : List (Option V)} {H : Hp} {s : Shared}
theorem Inv.freeze {d : Addr} {o : Obj} {u : HO} (I : Inv X pins σ H s) (h : H d = some u) (n1 : ∀ xs, u ≠ .tup xs) (n2 : ∀ o' u', u ≠ .frz o' u') (n3 : ∀ ps, u ≠ .tbl ps) (n4 : ∀ a, u ≠ .own a) (ho : s.heap.get? d = some o) : Inv X pins σ (upd H d (.frz o u)) s := by
  have ne : ∀ {b : Addr} {v : HO}, H b = some v → v ≠ u → b ≠ d := fun {b v} e hv z => by
    rw [z, h] at e
    exact hv (Option.some.inj e).symm
  have kt : ∀ (b : Addr) (xs : List V), H b = some (.tup xs) → upd H d (.frz o u) b = some (.tup xs) := fun b xs e => by
    rw [upd_ne (ne e fun z => n1 xs z.symm)]
    exact e
  have ko : ∀ (a b : Addr), H b = some (.own a) → upd H d (.frz o u) b = some (.own a) := fun a b e => by
    rw [upd_ne (ne e fun z => n4 a z.symm)]
    exact e
  refine I.step (h' := s.heap) (g' := s.gens) (d' := s.drawn) (t' := s.toks) (ch := []) (fun _ z => nomatch z) (fun b ob _ _ _ e _ => e) (fun b ob _ _ _ e _ => ⟨ob.slots, e⟩)
    (fun b ob _ _ n => by rw [upd_ne (fun z => by rw [z, h] at n; cases n)]; exact n) (fun b ob _ e => ⟨ob, e⟩) kt
    (fun b ob v e => by rw [upd_ne (ne e fun z => n2 ob v z.symm)]; exact e) (fun b ps e => ⟨#[], by rw [upd_ne (ne e fun z => n3 ps z.symm), e]; simp⟩) (fun m hm => hm) (fun b v e => ?_) I.bare
  by_cases hb : b = d
  · subst hb
    rw [upd_same] at e
    cases e
    exact ⟨ho, (I.hok b u h).stay (fun c w _ q => q) (fun c q => ko b c q) kt⟩
  · rw [upd_ne hb] at e
    exact (I.hok b v e).stay (fun c w _ q => q) (fun c q => ko b c q) kt
end
section
variable {X : Cx} {tg : Expr}
end
end L2
set_option Elab.async false
set_option linter.all false
set_option maxRecDepth 100000
set_option maxHeartbeats 4000000
namespace L2
open PySem PySem.Spec PyProof.Rows PySem.W
noncomputable def ItI (d : Addr) (o : Obj) (u : HO) (kvs : List (Key × V)) : It :=
  ⟨fun i H => H d = some (.frz o u) ∧ i < kvs.length, fun i H x H' => ∃ p kv, kvs[i]? = some kv ∧ H p = none ∧ x = .ref p ∧ H' = upd H p (.tup [kV kv.1, kv.2]), fun i H => H d = some (.frz o u) ∧ kvs.length ≤ i⟩
theorem turn_items {P : Program} {w : World} {K : PySem.W.Frag} {elts : List Expr} {k : Nat} {pos : Pos} {d it : Addr} {o : Obj} {u : HO} {kvs : List (Key × V)} {vs : List (Key × Value)} {ep : Nat} (hne : d ≠ it) (rel : KV kvs vs) (hat : ∀ h : Heap, h.get? d = some o → h.DictAt (mixKind P w) d vs ep) :
    Turn P w K (.Tuple elts k pos) (ItI d o u kvs) [it] it (fun i h => ∃ ok ov, IsItemIter h it d i vs.length ep ok ov) where
  mem := by simp
  obj := fun i h st b hb => by
    have z : b = it := by simpa using hb
    subst z
    obtain ⟨ok, ov, he⟩ := st
    exact ⟨_, he, fun v z => by
      have z' : Data.fields _ = Data.cell v := z
      cases z'⟩
  keep := fun i h h' st kk => by
    obtain ⟨ok, ov, he⟩ := st
    exact ⟨ok, ov, kk it (by simp) _ he⟩
  item := by
    intro X hP hw hK hc i pins s σ H E I hf st hg
    subst hP hw hK
    obtain ⟨hfz, hi⟩ := hg
    obtain ⟨ok, ov, he⟩ := st
    have hod : s.heap.get? d = some o := (show ObjOk X.prog X.w H s.heap d (.frz o u) from I.hok d _ hfz).1
    have hl := rel.length
    obtain ⟨⟨kk, x⟩, hx⟩ : ∃ p, vs[i]? = some p := ⟨vs[i], by simp [show i < vs.length by omega]⟩
    obtain ⟨kv, hkv, ek, rv⟩ := kv_at rel hx
    obtain ⟨f0, f1, f2, f3, f4, f5⟩ := hf it (by simp)
    refine wpAny_pyNext_items_item he (hat _ hod) hx fun key h' hkey ho hT hsz hk => ?_
    have I1 : Inv X pins σ H { s with heap := h' } := I.turned (t' := s.toks) (fun b ob hb e => hk b ob hb e) f0 f1 f3 f4 f5
    have hHT : H s.heap.objs.size = none := I.hok.fresh (Nat.le_refl _)
    have fT : FpOk X pins H s.heap.objs.size := I.fpOk (Nat.le_refl _) hHT
    have hTI : s.heap.objs.size ≠ it := Nat.ne_of_gt (Heap.lt_size he)
    refine ⟨_, rfl, ?_⟩
    refine wpAny_letOwnedTupleGo_items (s := { s with heap := h' }) ho fun h2 he2 hs2 => ?_
    have I2 : Inv X pins σ H { s with heap := h2 } := I1.turned (t' := s.toks) (fun b ob hb e => hs2.extBut b ob hb e) f0 f1 f3 f4 f5
    have hT2 : h2.get? s.heap.objs.size = some { cls := .type "tuple", data := .seq #[key, x] } := hs2.extBut _ _ hTI hT
    have I3 : Inv X pins σ (upd H s.heap.objs.size (.tup [kV kv.1, kv.2])) { s with heap := h2 } :=
      I2.track fT ⟨by show 2 ≤ sizeLine; decide, [key, x], .cons (by rw [ek]; exact is_kV hkey) (.cons rv .nil), ⟨_, hT2, rfl, 0, rfl⟩⟩
    refine ⟨.ref s.heap.objs.size, _, I3, rfl, ⟨s.heap.objs.size, kv, hkv, hHT, rfl, rfl⟩, ⟨_, _, he2⟩, fun b hb => ?_⟩
    have z : b = it := by simpa using hb
    rw [z, upd_ne hTI.symm]
    exact (hf it (by simp)).1
  done := by
    intro X hP hw hK hc i pins s σ H E I hf st hg
    subst hP hw hK
    obtain ⟨hfz, hi⟩ := hg
    obtain ⟨ok, ov, he⟩ := st
    have hod : s.heap.get? d = some o := (show ObjOk X.prog X.w H s.heap d (.frz o u) from I.hok d _ hfz).1
    have hl := rel.length
    obtain ⟨f0, f1, f2, f3, f4, f5⟩ := hf it (by simp)
    exact wpAny_pyNext_items_end (I.ok.hd hc) he (hat _ hod) (List.getElem?_eq_none (by omega)) fun h' eb => ⟨rfl, I.turned (t' := s.toks) (fun b ob hb e => eb b ob hb e) f0 f1 f3 f4 f5⟩
  self := fun _ _ _ _ _ st h => by
    obtain ⟨ok, ov, he⟩ := st
    exact kcp_self he h
section
variable {X : Cx} {o : Expr} {to : TE} {apos cpos : Pos} {elts : List Expr} {k : Nat} {tpos : Pos}
noncomputable def iItems (te : TE) : TI := fun σ H R => te σ H fun x H1 => ∃ d kvs, x = .ref d ∧ H1 d = some (.dK kvs) ∧ ∀ ob, R (ItI d ob (.dK kvs) kvs) (upd H1 d (.frz ob (.dK kvs)))
theorem pi_items (ho : PE X o to) (hbase : attributeBase o "items" X.env (eval o X.env) = eval o X.env := by rfl) (hline : (apos.endLine == cpos.line) = true := by rfl) : PI X (.Tuple elts k tpos) (.Call (.Attribute o "items" apos) [] [] cpos) (iItems to) := by
  intro pins s σ H R I h
  refine wpAny_Call_method0_late hbase hline (thn (ho pins s σ H _ I h) fun v s1 ⟨x, H1, I1, r1, d, kvs, ex, hD, q1⟩ => ?_)
  subst ex
  obtain rfl : v = Value.ref d := r1
  obtain ⟨z, hsm, vs, rel, dd⟩ := dk_rd I1.hok (Rd.of hD)
  refine ⟨"dict", "dict.items", PySem.F.plainAttrs_dict, PySem.F.slot_dict_items, PySem.F.type_dict_items, dd.typeIs, dd.mapOf.noDict, Calls.callWith_builtin rfl (PySem.evalArgs_none ?_)⟩
  refine call_meetsIn PySem.F.slot_dict_items dd.typeIs PySem.F.entry_dict_items (PySem.F.args_dict_items_1 _) (meets_dict_items (mixKind X.prog X.w) d hsm) ⟨⟨_, dd⟩, ?_⟩
  obtain ⟨ep, hat⟩ := dd.dictAt
  obtain ⟨ob, es, hob, hrest⟩ := id hat
  have hv : (s1.heap.push { cls := .type "dict_items", data := .fields #[.ref d] }).IsItemsView s1.heap.objs.size d := ⟨_, Heap.get?_push_size _ rfl, rfl, rfl⟩
  have I2 := I1.freeze hD (fun _ z => nomatch z) (fun _ _ z => nomatch z) (fun _ z => nomatch z) (fun _ z => nomatch z) hob
  have I3 : Inv X pins σ (upd H1 d (.frz ob (.dK kvs))) { s1 with heap := s1.heap.push { cls := .type "dict_items", data := .fields #[.ref d] } } := I2.kept (t' := s1.toks) fun b w e => Heap.get?_push_of_some _ e
  refine wpAny_pyIter_items (s := { s1 with heap := s1.heap.push { cls := .type "dict_items", data := .fields #[.ref d] } }) hv (hat.push _) ?_
  have hlt : d < s1.heap.objs.size := Heap.lt_size hob
  have hsz : (s1.heap.push { cls := .type "dict_items", data := .fields #[.ref d] }).objs.size = s1.heap.objs.size + 1 := Heap.size_push ..
  refine ⟨_, [_], _, _, _, rfl, I3.kept (t' := s1.toks) fun b w e => Heap.get?_push_of_some _ e, turn_items (o := ob) (Nat.ne_of_lt (by rw [hsz]; exact Nat.lt_succ_of_lt hlt)) rel (fun h' e => ⟨ob, es, e, hrest⟩), ⟨_, _, Heap.get?_push_size _ rfl⟩, fun b hb => ?_, q1 ob⟩
  have z : b = (s1.heap.push { cls := .type "dict_items", data := .fields #[.ref d] }).objs.size := by simpa using hb
  subst z
  exact I3.fpOk (Nat.le_refl _) (I3.hok.fresh (Nat.le_refl _))
end
theorem comp_items {d : Addr} {o : Obj} {u : HO} {kvs : List (Key × V)} {g : TG} {tt : TT} {te : TE} {Q : Hp → Prop} {σ : L2.St} {H : Hp} {D : Addr} (Pv : Nat → L2.St → Hp → Prop) (h0 : Pv 0 σ (upd H D (.lst [])))
    (hl : ∀ i σ2 H2, Pv i σ2 H2 → H2 d = some (.frz o u))
    (hs : ∀ i kv p σ2 H2, kvs[i]? = some kv → Pv i σ2 H2 → H2 p = none → g (.ref p) σ2 (upd H2 p (.tup [kV kv.1, kv.2])) fun σ4 H4 => tt σ4 H4 fun b H5 =>
      if b = true then te σ4 H5 fun y H6 => ∃ ys, H6 D = some (.lst ys) ∧ ys.length < sizeLine ∧ Pv (i + 1) σ4 (upd H6 D (.lst (ys ++ [y]))) else Pv (i + 1) σ4 H5)
    (hd : ∀ σ2 H2, Pv kvs.length σ2 H2 → Q H2) :
    ∃ W : Nat → Nat → L2.St → Hp → Prop, (∃ m, W 0 m σ (upd H D (.lst []))) ∧ ∀ i m σ2 H2, W i m σ2 H2 →
      ((ItI d o u kvs).stop i H2 ∧ Q H2) ∨ ((ItI d o u kvs).go i H2 ∧ ∃ N : L2.St → Hp → Prop, (∀ σ' H', N σ' H' → ∃ m', m' < m ∧ W (i + 1) m' σ' H') ∧ ∀ x H3, (ItI d o u kvs).yld i H2 x H3 → g x σ2 H3 fun σ4 H4 => tt σ4 H4 fun b H5 =>
        if b = true then te σ4 H5 fun y H6 => ∃ ys, H6 D = some (.lst ys) ∧ ys.length < sizeLine ∧ N σ4 (upd H6 D (.lst (ys ++ [y]))) else N σ4 H5) := by
  refine comp_by kvs.length Pv h0 (fun i σ2 H2 hi p => ?_) fun σ2 H2 p => ⟨⟨hl _ _ _ p, Nat.le_refl _⟩, hd _ _ p⟩
  refine ⟨⟨hl _ _ _ p, hi⟩, fun x H3 hy => ?_⟩
  obtain ⟨q, kv, hkv, hq, rfl, rfl⟩ := hy
  exact hs i kv q σ2 H2 hkv p hq
section
variable {X : Cx} {o e f : Expr} {apos cpos : Pos} {td ty tx : TE}
noncomputable def tDSet (td ty tx : TE) : TE := fun σ H Q => td σ H fun x H1 => ∃ a, x = .ref a ∧ IsD H1 a ∧ ty σ H1 fun y H2 => tx σ H2 fun z H3 => ∃ kvs k, H3 a = some (.dK kvs) ∧ y = kV k ∧ kvs.length < sizeLine ∧
  (∀ v, valV kvs k = some v → Q v H3) ∧ (valV kvs k = none → Q z (upd H3 a (.dK (putK kvs k z))))
theorem pe_dset2 (ho : PE X o td) (he : PE X e ty) (hf : PE X f tx) (m : M2 X o "setdefault" apos e f cpos) : PE X (.Call (.Attribute o "setdefault" apos) [e, f] [] cpos) (tDSet td ty tx) := by
  intro pins s σ H Q I h
  refine wpAny_Call_method m.base m.few m.line PySem.F.plainAttrs_dict PySem.F.slot_dict_setdefault PySem.F.type_dict_setdefault (thn (ho pins s σ H _ I h) fun u s1 ⟨x, H1, I1, rx, a, ex, d, q1⟩ => ?_)
  subst ex
  obtain rfl : u = Value.ref a := rx
  obtain ⟨t1, t2, _⟩ := isD_at I1 d
  refine ⟨t1, t2, ?_⟩
  rw [m.trees]
  refine Calls.callWith_builtin rfl (Calls.evalArgs_plain (Calls.spliced_cons (thn (he pins s1 σ H1 _ I1 q1) fun iv s2 ⟨y, H2, I2, ry, q2⟩ =>
    Calls.spliced_cons (thn (hf pins s2 σ H2 _ I2 q2) fun fv s3 ⟨z, H3, I3, rz, kvs, k, ea, ey, hlt, q3, q4⟩ => Calls.spliced_nil ?_))))
  subst ey
  obtain ⟨zz, hd, vs, rel, dd⟩ := dk_of I3.hok ea
  have hz : vs.length ≤ sizeLine := by rw [← rel.length]; exact zz
  have hv := rel.val k
  refine call_meetsIn PySem.F.slot_dict_setdefault dd.typeIs PySem.F.entry_dict_setdefault (PySem.F.args_dict_setdefault_3 _ _ _) (kt_meets_setdefault (mixKind X.prog X.w) a (kV_is ry) hd fv) ⟨vs, dd, hz, fun w' hw => ?_, fun hn h' dd' hs => ?_⟩
  · cases l : valV kvs k with
    | none =>
      rw [l, hw] at hv
      exact hv.elim
    | some v =>
      rw [l, hw] at hv
      exact ⟨v, H3, I3.tok _, hv, q3 v l⟩
  · have hl : (putK kvs k z).length ≤ sizeLine := by have := length_putK kvs k z; omega
    have he : ∃ q, h'.get? a = some q := let ⟨q, _, _, hq, _⟩ := dd'; ⟨q, hq⟩
    have l : valV kvs k = none := by
      cases l : valV kvs k with
      | none => rfl
      | some v => rw [l, hn] at hv; exact hv.elim
    exact ⟨z, _, d_write I3 (by rw [ea]; exact True.intro) hs he (dk_new hl hd (rel.put k rz) dd'), rz, q4 l⟩
end
end L2
set_option Elab.async false
set_option linter.all false
set_option maxRecDepth 100000
set_option maxHeartbeats 4000000
namespace L2
open PySem PySem.Spec PyProof.Rows
end L2
set_option Elab.async false
set_option linter.all false
set_option maxRecDepth 100000
namespace HD
open PySem PySem.W
noncomputable abbrev cutTo (p : Program) (ks : List Nat) : Program :=
  { p with main := { p.main with body := ks.filterMap fun i => p.main.body[i]? } }
noncomputable abbrev en (P : Params) (x : Str) (t : Tok) (v : Value) : DictEntry := ⟨PyData.keyHash P x, .str x t, v⟩
theorem head_of {l : OpenLaw} {q : Program} {K : Params → Frag} {as : List Addr} {N : Nat} {d : DefRec} {kwd : List (Str × Expr)}
    (e : ∀ P, as = (K P).map (·.1)) (said : l.wellSaid = true)
    (hl : LeftO l.row.prog q [] (fun s => xlAt q [] s && recOk (RowW.records l.row.toRowW) s) (kHook K as e).obs (kHook K as e).val N)
    (h1 : defOf q l.row.name = some (d, kwd)) (h2 : l.row.prog.theDef l.row.name = some (d.params, d.body, d.scope))
    (h3 : kwWritten? d.params.kwonlyargs d.params.kw_defaults = some kwd) (h4 : (!l.row.writes || l.row.records.isEmpty) = true)
    (h5 : (chainsOk q && opensWell l.row.prog && (frees l.row.toRowW && l.row.within.isEmpty)) = true)
    (h6 : l.row.prog.bare) (h7 : l.row.toRowW.promised)
    (go : WalkO q [] (XL q []) (kHook K as e).says l.row.toRowW d kwd fun f vs => PySem.call f vs) : l.Holds := by
  refine holds_law said fun sd => ?_
  refine holds_open (XP := XL q []) (YP := (kHook K as e).says) hl (kHook K as e).of (kHook K as e).keeps ?_ XL.keeps h1 h2 h3 ?_ h4 sd h5 h6 h7 go
  · intro s x
    exact xl_of s (Bool.and_eq_true_iff.mp x).1
  · intro s x
    exact recFacts_of (Bool.and_eq_true_iff.mp x).2
end HD
set_option Elab.async false
set_option linter.all false
set_option maxRecDepth 100000
set_option maxHeartbeats 8000000
namespace K59
open PySem L2 PyProof.Rows
theorem len1 {α : Type} {us : List α} (h : us.length = 1) : ∃ a, us = [a] := by
  match us, h with
  | [a], _ => exact ⟨a, rfl⟩
theorem len2 {α : Type} {us : List α} (h : us.length = 2) : ∃ a b, us = [a, b] := by
  match us, h with
  | [a, b], _ => exact ⟨a, b, rfl⟩
theorem len3 {α : Type} {us : List α} (h : us.length = 3) : ∃ a b c, us = [a, b, c] := by
  match us, h with
  | [a, b, c], _ => exact ⟨a, b, c, rfl⟩
theorem len4 {α : Type} {us : List α} (h : us.length = 4) : ∃ a b c d, us = [a, b, c, d] := by
  match us, h with
  | [a, b, c, d], _ => exact ⟨a, b, c, d, rfl⟩
noncomputable def top (i : Nat) : Stmt := PySem.Challenge.pw_bundlehouse_k59_whole_prices_are_loads.main.body.getD i (.Pass ⟨0, 0, 0, 0⟩)
noncomputable abbrev s_price : Stmt := top 5
theorem sc_price : FnScope ["groups", "toll", "cut"] ["groups", "toll", "cut"] (defScope s_price) := ⟨rfl, rfl, rfl, by decide +kernel, rfl, by decide +kernel, by decide +kernel⟩
noncomputable abbrev s_pack_price : Stmt := top 6
theorem sc_pack_price : FnScope ["groups", "toll", "pack", "colour", "rows", "number"] ["groups", "toll", "pack"] (defScope s_pack_price) := ⟨rfl, rfl, rfl, by decide +kernel, rfl, by decide +kernel, by decide +kernel⟩
noncomputable abbrev s_numbers_in : Stmt := top 7
theorem sc_numbers_in : FnScope ["whole"] ["whole"] (defScope s_numbers_in) := ⟨rfl, rfl, rfl, by decide +kernel, rfl, by decide +kernel, by decide +kernel⟩
noncomputable abbrev s_tight : Stmt := top 8
theorem sc_tight : FnScope ["groups"] ["groups"] (defScope s_tight) := ⟨rfl, rfl, rfl, by decide +kernel, rfl, by decide +kernel, by decide +kernel⟩
noncomputable abbrev s_single : Stmt := top 9
theorem sc_single : FnScope ["groups"] ["groups"] (defScope s_single) := ⟨rfl, rfl, rfl, by decide +kernel, rfl, by decide +kernel, by decide +kernel⟩
noncomputable abbrev s_cheapest : Stmt := top 10
theorem sc_cheapest : FnScope ["groups", "toll", "apart", "together"] ["groups", "toll"] (defScope s_cheapest) := ⟨rfl, rfl, rfl, by decide +kernel, rfl, by decide +kernel, by decide +kernel⟩
noncomputable abbrev s_best_packs : Stmt := top 11
theorem sc_best_packs : FnScope ["groups", "toll", "prices", "best", "place"] ["groups", "toll"] (defScope s_best_packs) := ⟨rfl, rfl, rfl, by decide +kernel, rfl, by decide +kernel, by decide +kernel⟩
noncomputable abbrev s_first_packs : Stmt := top 12
theorem sc_first_packs : FnScope ["place", "first"] ["place"] (defScope s_first_packs) := ⟨rfl, rfl, rfl, by decide +kernel, rfl, by decide +kernel, by decide +kernel⟩
noncomputable abbrev s_least_cut : Stmt := top 13
theorem sc_least_cut : FnScope ["best", "cut", "left", "pack"] ["best"] (defScope s_least_cut) := ⟨rfl, rfl, rfl, by decide +kernel, rfl, by decide +kernel, by decide +kernel⟩
noncomputable abbrev s_placed_rows : Stmt := top 15
theorem sc_placed_rows : FnScope ["parts", "found", "part", "rows", "number", "row"] ["parts"] (defScope s_placed_rows) := ⟨rfl, rfl, rfl, by decide +kernel, rfl, by decide +kernel, by decide +kernel⟩
noncomputable abbrev s_brings : Stmt := top 16
theorem sc_brings : FnScope ["parts", "part"] ["parts", "part"] (defScope s_brings) := ⟨rfl, rfl, rfl, by decide +kernel, rfl, by decide +kernel, by decide +kernel⟩
noncomputable abbrev s_named_parts : Stmt := top 17
theorem sc_named_parts : FnScope ["parts", "part", "kind", "found", "row"] ["parts", "part", "kind"] (defScope s_named_parts) := ⟨rfl, rfl, rfl, by decide +kernel, rfl, by decide +kernel, by decide +kernel⟩
noncomputable abbrev s_order : Stmt := top 18
theorem sc_order : FnScope ["parts", "root", "begun", "waiting", "part"] ["parts", "root"] (defScope s_order) := ⟨rfl, rfl, rfl, by decide +kernel, rfl, by decide +kernel, by decide +kernel⟩
noncomputable abbrev s_roots : Stmt := top 20
theorem sc_roots : FnScope ["parts", "beginnings", "asked"] ["parts", "beginnings"] (defScope s_roots) := ⟨rfl, rfl, rfl, by decide +kernel, rfl, by decide +kernel, by decide +kernel⟩
noncomputable abbrev s_colours : Stmt := top 21
theorem sc_colours : FnScope ["parts", "some", "found", "part", "rows", "worth", "root"] ["parts", "some"] (defScope s_colours) := ⟨rfl, rfl, rfl, by decide +kernel, rfl, by decide +kernel, by decide +kernel⟩
noncomputable abbrev s_groups : Stmt := top 22
theorem sc_groups : FnScope ["parts", "beginnings", "found", "members", "part", "rows"] ["parts", "beginnings"] (defScope s_groups) := ⟨rfl, rfl, rfl, by decide +kernel, rfl, by decide +kernel, by decide +kernel⟩
noncomputable abbrev s_size_of : Stmt := top 23
theorem sc_size_of : FnScope ["parts", "names"] ["parts", "names"] (defScope s_size_of) := ⟨rfl, rfl, rfl, by decide +kernel, rfl, by decide +kernel, by decide +kernel⟩
noncomputable abbrev s_size_of_part : Stmt := top 24
theorem sc_size_of_part : FnScope ["rows"] ["rows"] (defScope s_size_of_part) := ⟨rfl, rfl, rfl, by decide +kernel, rfl, by decide +kernel, by decide +kernel⟩
noncomputable abbrev s_law_cell_at : Stmt := top 26
theorem sc_law_cell_at : FnScope ["_law_script", "_law_k"] ["_law_script", "_law_k"] (defScope s_law_cell_at) := ⟨rfl, rfl, rfl, by decide +kernel, rfl, by decide +kernel, by decide +kernel⟩
noncomputable abbrev s_law_mixed : Stmt := top 27
theorem sc_law_mixed : FnScope ["_law_cell", "_law_k", "_law_prime"] ["_law_cell", "_law_k", "_law_prime"] (defScope s_law_mixed) := ⟨rfl, rfl, rfl, by decide +kernel, rfl, by decide +kernel, by decide +kernel⟩
noncomputable abbrev s_law_names : Stmt := top 28
theorem sc_law_names : FnScope ["_law_cell", "_law_many", "_law_letters", "_law_signs", "_law_base", "_law_names_here", "_law_long", "_law_at", "_law_step", "_law_k", "_law_sign"] ["_law_cell", "_law_many"] (defScope s_law_names) := ⟨rfl, rfl, rfl, by decide +kernel, rfl, by decide +kernel, by decide +kernel⟩
noncomputable abbrev s_law_other : Stmt := top 29
theorem sc_law_other : FnScope ["_law_here", "_law_many", "_law_mix", "_law_mode"] ["_law_here", "_law_many", "_law_mix", "_law_mode"] (defScope s_law_other) := ⟨rfl, rfl, rfl, by decide +kernel, rfl, by decide +kernel, by decide +kernel⟩
noncomputable abbrev s_law_row : Stmt := top 30
theorem sc_law_row : FnScope ["_law_kind", "_law_mix", "_law_other_here", "_law_mine", "_law_given", "_law_others", "_law_own"] ["_law_kind", "_law_mix", "_law_other_here", "_law_mine", "_law_given", "_law_others"] (defScope s_law_row) := ⟨rfl, rfl, rfl, by decide +kernel, rfl, by decide +kernel, by decide +kernel⟩
noncomputable abbrev s_law_parts : Stmt := top 31
theorem sc_law_parts : FnScope ["_law_script", "_law_first", "_law_names_here", "_law_mode", "_law_many", "_law_rows", "_law_mine", "_law_given", "_law_k", "_law_mix", "_law_here", "_law_at", "_law_other_here", "_law_kind"] ["_law_script", "_law_first", "_law_names_here", "_law_mode"] (defScope s_law_parts) := ⟨rfl, rfl, rfl, by decide +kernel, rfl, by decide +kernel, by decide +kernel⟩
noncomputable abbrev s_law_some : Stmt := top 32
theorem sc_law_some : FnScope ["_law_names_here", "_law_cell", "_law_most", "_law_left", "_law_found", "_law_k"] ["_law_names_here", "_law_cell", "_law_most"] (defScope s_law_some) := ⟨rfl, rfl, rfl, by decide +kernel, rfl, by decide +kernel, by decide +kernel⟩
noncomputable abbrev s_law_come : Stmt := top 33
theorem sc_law_come : FnScope ["_law_parts_here", "_law_root", "_law_rows_by", "_law_found", "_law_at", "_law_row_here"] ["_law_parts_here", "_law_root"] (defScope s_law_come) := ⟨rfl, rfl, rfl, by decide +kernel, rfl, by decide +kernel, by decide +kernel⟩
noncomputable abbrev s_law_toll : Stmt := top 34
theorem sc_law_toll : FnScope ["_law_cell"] ["_law_cell"] (defScope s_law_toll) := ⟨rfl, rfl, rfl, by decide +kernel, rfl, by decide +kernel, by decide +kernel⟩
noncomputable abbrev s_law_packs : Stmt := top 35
theorem sc_law_packs : FnScope ["_law_told", "_law_cut", "_law_packs_here", "_law_numbers", "_law_names_here", "_law_number"] ["_law_told", "_law_cut"] (defScope s_law_packs) := ⟨rfl, rfl, rfl, by decide +kernel, rfl, by decide +kernel, by decide +kernel⟩
noncomputable abbrev s_law_paid : Stmt := top 36
theorem sc_law_paid : FnScope ["_law_parts_here", "_law_come_here", "_law_packs_here", "_law_toll_here", "_law_sizes", "_law_name", "_law_rows", "_law_spent", "_law_names_here", "_law_load", "_law_way"] ["_law_parts_here", "_law_come_here", "_law_packs_here", "_law_toll_here"] (defScope s_law_paid) := ⟨rfl, rfl, rfl, by decide +kernel, rfl, by decide +kernel, by decide +kernel⟩
noncomputable abbrev s_law_each_once : Stmt := top 37
theorem sc_law_each_once : FnScope ["_law_names_here", "_law_come_here", "_law_packs_here", "_law_name", "_law_due"] ["_law_names_here", "_law_come_here", "_law_packs_here"] (defScope s_law_each_once) := ⟨rfl, rfl, rfl, by decide +kernel, rfl, by decide +kernel, by decide +kernel⟩
noncomputable abbrev s_law_apart : Stmt := top 38
theorem sc_law_apart : FnScope ["_law_come_here", "_law_packs_here", "_law_names_here", "_law_way"] ["_law_come_here", "_law_packs_here"] (defScope s_law_apart) := ⟨rfl, rfl, rfl, by decide +kernel, rfl, by decide +kernel, by decide +kernel⟩
noncomputable abbrev s_law : Stmt := top 39
theorem sc_law : FnScope ["_law_script", "_law_many", "_law_names_here", "_law_parts_here", "_law_begun", "_law_toll_here", "_law_told", "_law_asked", "_law_name", "_law_rows", "_law_come_here", "_law_paid_here", "_law_cut", "_law_packs_here"] ["_law_script"] (defScope s_law) := ⟨rfl, rfl, rfl, by decide +kernel, rfl, by decide +kernel, by decide +kernel⟩
structure Txt (K : PySem.W.Frag) (mg : Str → Option Value) : Prop where
  n_len : mg "len" = none
  n_range : mg "range" = none
  n_str : mg "str" = none
  n_tuple : mg "tuple" = none
  n_dict : mg "dict" = none
  n_list : mg "list" = none
  n_reversed : mg "reversed" = none
  n_int : mg "int" = none
  n_min : mg "min" = none
  n_zip : mg "zip" = none
  n_enumerate : mg "enumerate" = none
  n_sum : mg "sum" = none
  g_MOST_GROUPS : ∃ u, mg "MOST_GROUPS" = some u ∧ RelV (.int 8) u
  d_placed_rows : HasDef K mg "placed_rows" s_placed_rows
  d_brings : HasDef K mg "brings" s_brings
  d_named_parts : HasDef K mg "named_parts" s_named_parts
  d_order : HasDef K mg "order" s_order
  d_roots : HasDef K mg "roots" s_roots
  d_colours : HasDef K mg "colours" s_colours
  d_groups : HasDef K mg "groups" s_groups
  d_size_of : HasDef K mg "size_of" s_size_of
  d_size_of_part : HasDef K mg "size_of_part" s_size_of_part
  d_price : HasDef K mg "price" s_price
  d_pack_price : HasDef K mg "pack_price" s_pack_price
  d_numbers_in : HasDef K mg "numbers_in" s_numbers_in
  d_tight : HasDef K mg "tight" s_tight
  d_single : HasDef K mg "single" s_single
  d_cheapest : HasDef K mg "cheapest" s_cheapest
  d_best_packs : HasDef K mg "best_packs" s_best_packs
  d_first_packs : HasDef K mg "first_packs" s_first_packs
  d_least_cut : HasDef K mg "least_cut" s_least_cut
  d_law_cell_at : HasDef K mg "_law_cell_at" s_law_cell_at
  d_law_mixed : HasDef K mg "_law_mixed" s_law_mixed
  d_law_names : HasDef K mg "_law_names" s_law_names
  d_law_other : HasDef K mg "_law_other" s_law_other
  d_law_row : HasDef K mg "_law_row" s_law_row
  d_law_parts : HasDef K mg "_law_parts" s_law_parts
  d_law_some : HasDef K mg "_law_some" s_law_some
  d_law_come : HasDef K mg "_law_come" s_law_come
  d_law_toll : HasDef K mg "_law_toll" s_law_toll
  d_law_packs : HasDef K mg "_law_packs" s_law_packs
  d_law_paid : HasDef K mg "_law_paid" s_law_paid
  d_law_each_once : HasDef K mg "_law_each_once" s_law_each_once
  d_law_apart : HasDef K mg "_law_apart" s_law_apart
noncomputable def spNamedParts : Sp := fun vs H Q _ => ∃ (a : Addr) (ps : List Pt) (n k : Str) (rs : List Rw), vs = [.ref a, .str n, .str k] ∧ (k = "bring" ∨ k = "ask") ∧ PartsF H a ps ∧ (ps.map (·.1)).Nodup ∧ (n, rs) ∈ ps ∧ ps.length ≤ 1000 ∧ rs.length ≤ 900 ∧
  ∀ (p : Addr) (H' : Hp), Same H H' → H' p = some (.tup ((namedOf k rs).map V.str)) → Q (.ref p) H'
noncomputable def spNames (k : Str) : Sp := fun vs H Q _ => ∃ (a : Addr) (ps : List Pt) (n : Str) (rs : List Rw), vs = [.ref a, .str n] ∧ PartsF H a ps ∧ (ps.map (·.1)).Nodup ∧ (n, rs) ∈ ps ∧ ps.length ≤ 1000 ∧ rs.length ≤ 900 ∧
  ∀ (p : Addr) (H' : Hp), Same H H' → H' p = some (.tup ((namedOf k rs).map V.str)) → Q (.ref p) H'
theorem parts_pairs {K : PySem.W.Frag} {H : Hp} : ∀ {vs : List V} {ps : List Pt}, Paired (PartAt H) vs ps → ∃ qs : List (Str × V), Paired (fun v (p : Str × V) => ∃ t, v = .ref t ∧ SqT K H t [.str p.1, p.2]) vs qs ∧ qs.map (·.1) = ps.map (·.1) ∧ ∀ n rs, (n, rs) ∈ ps → ∃ u ws, (n, V.ref u) ∈ qs ∧ H u = some (.tup ws) ∧ RowsAt H ws rs
  | _, _, .nil => ⟨[], .nil, rfl, fun n rs h => by simp at h⟩
  | _, _, .cons (b := p) ⟨t, u, ws, e, h1, h2, h3⟩ hr => by
    obtain ⟨qs, g1, g2, g3⟩ := parts_pairs (K := K) hr
    refine ⟨(p.1, .ref u) :: qs, .cons ⟨t, e, SqT.of h1⟩ g1, by rw [List.map_cons, List.map_cons, g2], fun n rs h => ?_⟩
    rcases List.mem_cons.mp h with z | z
    · rw [← z] at h1 h3 ⊢
      exact ⟨u, ws, List.mem_cons_self, h2, h3⟩
    · obtain ⟨u', ws', k1, k2⟩ := g3 n rs z
      exact ⟨u', ws', List.mem_cons_of_mem _ k1, k2⟩
theorem Tups.dK {H : Hp} {l : Addr} {kvs kvs' : List (Key × V)} (h : H l = some (.dK kvs)) : Tups H (upd H l (.dK kvs')) := fun b zs q => by
  rw [upd_ne (ne_of q h (by intro z; cases z))]
  exact q
section
variable {P : Program} {w : World} {K : PySem.W.Frag} {mg : Str → Option Value} {base : Heap}
theorem ok_named_parts (T : Txt K mg) : L2.Cl P w K mg base 1 "named_parts" ["parts", "part", "kind"] spNamedParts := by
  refine Cl.of T.d_named_parts sc_named_parts (fun vs H Q E h => ?_) (fun _ _ _ _ _ _ us hl => by obtain ⟨a, b, c, rfl⟩ := len3 hl; rfl) (fun f cdv A outer s H vs Q E hr h => ?_)
  · obtain ⟨a, ps, n, k, rs, rfl, _⟩ := h
    rfl
  · obtain ⟨a, ps, n, k, rs, rfl, hk, ⟨o, vs, ha, ho, hps⟩, hnd, hmem, hl1, hl2, q⟩ := h
    have hu := hu_of hr
    refine ⟨_, (pss_cons (ps_set (i := 3) sc_named_parts.nd rfl (Or.inl rfl) pe_dnewK)
      (pss_cons (ps_for PassesOwn.never rfl (pi_tup (pe_dget hu (pe_callTy (call_dictT rfl) (by rfl) T.n_dict boot_dict (pa_cons (pv 0) pa_nil)) (pv 1) (fun _ _ => rfl))) (pg_name (i := 4) sc_named_parts.nd rfl (Or.inl rfl))
        (pss_one (ps_if (pt_cmpR op_eq (pe_ix ix_tup (pv 4) pe_int (fun _ _ => rfl)) (pv 2) (nomark _))
          (pss_one (ps_dput hu (pv 3) (pe_ix ix_tup (pv 4) pe_int (fun _ _ => rfl)) pe_bl rfl)) pss_nil)))
      (pss_one (ps_ret (pe_callTy (call_tupleD rfl) (by rfl) T.n_tuple boot_tuple (pa_cons (pv 3) pa_nil)))))), ?_⟩
    intro d gd
    have s1 : Same H (upd H d (.dK [])) := (Same.refl H).new gd
    obtain ⟨qs, g1, g2, g3⟩ := parts_pairs (K := K) (Paired.mapP hps fun _ _ z => z.mono s1.tups)
    obtain ⟨u, ws, k1, k2, k3⟩ := g3 n rs hmem
    have hql : qs.length = ps.length := by
      have := congrArg List.length g2
      simpa using this
    refine ⟨_, rfl, a, o, vs, qs, rfl, s1 _ _ ha, ho, g1, (by omega), fun e ge => ?_⟩
    have s2 := s1.new (o := .dK (foldP qs [])) ge
    refine ⟨_, rfl, e, .ref u, rfl, ?_, ?_⟩
    · have hg := DGet.k (k := Sum.inr n) (upd_same (H := upd H d (.dK [])) (a := e) (o := .dK (foldP qs [])))
      rw [foldP_get qs [] n (.ref u) (by rw [g2]; exact hnd) (.inl k1)] at hg
      exact hg
    · have s2 : Same H (upd (upd H d (.dK [])) e (.dK (foldP qs []))) := s1.new ge
      have hde : d ≠ e := ne_of_none (upd_same (H := H) (a := d) (o := .dK [])) ge
      have hwl : ws.length = rs.length := Paired.length k3
      refine ⟨u, rfl, ⟨_, SqT.of (upd_keep k2 ge)⟩, for_tup (K := K) (a := u) (xs := ws) (fun i σ H2 => ∃ v4 : Option V, σ = [some (.ref a), some (.str n), some (.str k), some (.ref d), v4] ∧ Same H H2 ∧ H2 d = some (.dK (setD (namedOf k (rs.take i)))) ∧ H2 u = some (.tup ws) ∧ RowsAt H2 ws rs)
        ⟨none, rfl, s2, ?_, upd_keep k2 ge, k3.mono (Tups.new ge)⟩ (fun i σ H2 _ ⟨_, _, _, _, e2, _⟩ => SqT.of e2) ?_ ?_⟩
      · rw [upd_ne hde, upd_same]; rfl
      · rintro i y σ H2 hx ⟨v4, rfl, s3, hd3, hu3, hr3⟩
        have hi : i < ws.length := (List.getElem?_eq_some_iff.mp hx).1
        obtain ⟨rw, hrw, r, er, hra⟩ := Paired.get? hr3 hx
        subst er
        have hlt : (namedOf k (rs.take i)).length ≤ 900 := by
          have h1 := namedOf_len k (rs.take i) []
          have h2 : (rs.take i).length ≤ rs.length := List.length_take_le' ..
          unfold namedOf
          simp only [List.length_nil] at h1
          omega
        have htk : rs.take (i + 1) = rs.take i ++ [rw] := take_succ_get hrw
        rcases hra.named hk with ⟨e1, p, rest, e2, h2⟩ | ⟨e1, e2⟩
        · have z0 : atI (V.str k :: V.str p :: rest) 0 = some (.str k) := atI_nat (j := 0) rfl
          have z1 : atI (V.str k :: V.str p :: rest) 1 = some (.str p) := atI_nat (j := 1) rfl
          refine ⟨_, rfl, r, _, _, _, rfl, rfl, SqT.of h2, z0, _, rfl, rfl, _, rfl, iteSE ?_⟩
          refine ⟨_, rfl, _, rfl, r, _, _, _, rfl, rfl, SqT.of h2, z1, d, _, rfl, DPut.k (k := Sum.inr p) hd3 (small1000 (by rw [setD_len]; omega)), ?_⟩
          refine ⟨_, rfl, s3.put gd, ?_, ?_, hr3.mono (Tups.dK hd3)⟩
          · rw [upd_same, setD_put, htk, namedOf_snoc]
            unfold stepN
            rw [e2]
          · exact Tups.dK hd3 _ _ hu3
        · obtain ⟨x, rest, h2⟩ := hra.kind
          have z0 : atI (V.str (kindS rw) :: x :: rest) 0 = some (.str (kindS rw)) := atI_nat (j := 0) rfl
          refine ⟨_, rfl, r, _, _, _, rfl, rfl, SqT.of h2, z0, _, rfl, rfl, _, rfl, iteSN e1 ?_⟩
          refine ⟨_, rfl, s3, ?_, hu3, hr3⟩
          rw [htk, namedOf_snoc]
          unfold stepN
          rw [e2]
          exact hd3
      · rintro σ H2 ⟨v4, rfl, s3, hd3, hu3, hr3⟩
        rw [hwl, List.take_length] at hd3
        refine ⟨_, rfl, d, _, rfl, .inl hd3, fun t gt => ?_⟩
        refine q t _ (s3.new gt) ?_
        rw [upd_same, setD_keys]
theorem ok_brings (T : Txt K mg) : L2.Cl P w K mg base 2 "brings" ["parts", "part"] (spNames "bring") := by
  have C_named_parts := ok_named_parts (P := P) (w := w) (base := base) T
  refine Cl.of T.d_brings sc_brings (fun vs H Q E h => ?_) (fun _ _ _ _ _ _ us hl => by obtain ⟨a, b, rfl⟩ := len2 hl; rfl) (fun f cdv A outer s H vs Q E hr h => ?_)
  · obtain ⟨a, ps, n, rs, rfl, _⟩ := h
    rfl
  · obtain ⟨a, ps, n, rs, rfl, h1, h2, h3, h4, h5, q⟩ := h
    refine ⟨_, (pss_one (ps_ret (pe_fn C_named_parts hr (by rfl) (pa_cons (pv 0) (pa_cons (pv 1) (pa_cons pe_str pa_nil)))))), ?_⟩
    exact ⟨_, rfl, _, rfl, a, ps, n, "bring", rs, rfl, .inl rfl, h1, h2, h3, h4, h5, q⟩
theorem mt_joinK {X : Cx} {K : PySem.W.Frag} (h : X.K = K) : MtR X "str.join" (fun x vs H Q => ∃ sep p ys, x = .str sep ∧ vs = [.ref p] ∧ (SqT K H p (ys.map V.str) ∨ SqL K H p (ys.map V.str)) ∧ sep.length ≤ 16 ∧ (ys.map (·.length)).sum + ys.length ≤ 1048576 ∧ Q (.str (Str.join sep ys)) H) := h ▸ mt_join
theorem pe_bmK {X : Cx} {K : PySem.W.Frag} (hK : X.K = K) {o e : Expr} {es : List Expr} {to : TE} {t : TA} {name : Str} {apos cpos : Pos} {T id : String} {r : V → List V → Hp → VK → Prop} (pa : PlainAttrs T) (slot : Slot T name id) (hty : typeOf (.builtin id) = pure (.type "method_descriptor")) (hm : MtR X id r) (ho : PE X o to) (ha : PA X (e :: es) t)
    (hbase : attributeBase o name X.env (eval o X.env) = eval o X.env := by rfl)
    (hfew : ((backTo cpos (starEach (e :: es) X.env)).all (fun x => !x.1) && (backToKw cpos (keywordEach [] X.env)).all (fun x => x.1.isSome) && decide ((e :: es).length + ([] : List Keyword).length + (if ([] : List Keyword).isEmpty then 0 else 1) < 30)) = true := by rfl)
    (hline : (apos.endLine == cpos.line) = true := by rfl) (hs : starEach (e :: es) X.env = (false, eval e X.env) :: starEach es X.env := by rfl) (hplain : (backTo cpos (starEach es X.env)).any (·.1) = false := by rfl) :
    PE X (.Call (.Attribute o name apos) (e :: es) [] cpos) (tBM K T r to t) := by
  subst hK
  exact pe_bm pa slot hty hm ho ha hbase hfew hline hs hplain
theorem tand_pure {t u : TT} {σ : L2.St} {H : Hp} {a b : Bool} (ht : ∀ Q : Bool → Hp → Prop, Q a H → t σ H Q) (hu : ∀ Q : Bool → Hp → Prop, Q b H → u σ H Q) : ∀ Q : Bool → Hp → Prop, Q (a && b) H → tAnd t u σ H Q := fun Q h => by
  refine ht _ ?_
  cases a with
  | true => exact iteT (hu _ h)
  | false => exact iteF h
theorem tor_pure {t u : TT} {σ : L2.St} {H : Hp} {a b : Bool} (ht : ∀ Q : Bool → Hp → Prop, Q a H → t σ H Q) (hu : ∀ Q : Bool → Hp → Prop, Q b H → u σ H Q) : ∀ Q : Bool → Hp → Prop, Q (a || b) H → tOr t u σ H Q := fun Q h => by
  refine ht _ ?_
  cases a with
  | true => exact iteT h
  | false => exact iteF (hu _ h)
theorem g_if_p {t : TT} {A B R : TS} {D : Ends} {r : VK} {b k : L2.St → Hp → Prop} {i : Nat} {v : V} {σ : L2.St} {H : Hp} {a : Bool} (ht : ∀ Q : Bool → Hp → Prop, Q a H → t (σ.set i (some v)) H Q) (h : if a = true then A { D with nx := R D } (σ.set i (some v)) H else B { D with nx := R D } (σ.set i (some v)) H) : gName i v σ H (Ends.nx ⟨tSeq (tIfS t A B) R D, r, b, k⟩) := ht _ h
theorem s_if_p {t : TT} {A B R : TS} {D : Ends} {σ : L2.St} {H : Hp} {a : Bool} (ht : ∀ Q : Bool → Hp → Prop, Q a H → t σ H Q) (h : if a = true then A { D with nx := R D } σ H else B { D with nx := R D } σ H) : tSeq (tIfS t A B) R D σ H := ht _ h
noncomputable def ch (c : Nat) : Str := ⟨#[c]⟩
noncomputable def chs (l : List Nat) : List V := (l.map ch).map V.str
theorem chs_snoc (l : List Nat) (c : Nat) : chs (l ++ [c]) = chs l ++ [.str (ch c)] := by unfold chs; simp
theorem chs_len (l : List Nat) : (chs l).length = l.length := by unfold chs; simp
theorem chs_take (l : List Nat) (k : Nat) : (chs l).take k = chs (l.take k) := by unfold chs; rw [List.map_take, List.map_take]
theorem chs_drop (l : List Nat) (k : Nat) : (chs l).drop k = chs (l.drop k) := by unfold chs; rw [List.map_drop, List.map_drop]
theorem ch_sum : ∀ l : List Nat, ((l.map ch).map (·.length)).sum = l.length
  | [] => rfl
  | c :: r => by
    have ih := ch_sum r
    simp only [List.map_cons, List.sum_cons, List.length_cons]
    rw [ih]
    show 1 + r.length = _
    omega
theorem no_signs : ("" : Str).cps.toList = [] := by decide +kernel
theorem join0 : ∀ l : List Nat, (Str.join "" (l.map ch)).cps.toList = l
  | [] => by decide +kernel
  | [c] => rfl
  | c :: d :: r => by
    have ih := join0 (d :: r)
    show (ch c ++ "" ++ Str.join "" ((d :: r).map ch)).cps.toList = _
    rw [cps_app, cps_app, ih, no_signs]
    rfl
noncomputable def lS (l : List Nat) : Str := ⟨l.toArray⟩
theorem lS_cps (l : List Nat) : (lS l).cps.toList = l := by unfold lS; simp
theorem join0S (l : List Nat) : Str.join "" (l.map ch) = lS l := str_ext (by rw [join0, lS_cps])
theorem lS_inj {a b : List Nat} (h : lS a = lS b) : a = b := by
  have := congrArg (fun x : Str => x.cps.toList) h
  simpa [lS_cps] using this
theorem lS_app (a b : List Nat) : lS a ++ lS b = lS (a ++ b) := str_ext (by rw [cps_app, lS_cps, lS_cps, lS_cps])
theorem ch_lS (c : Nat) : ch c = lS [c] := rfl
theorem lS_len (a : List Nat) : (lS a).length = a.length := by unfold lS Str.length; simp
noncomputable def mixM (c k p : Int) : Int := (c * 48271 + 7919 * k * k + 101 * k) % p
noncomputable def baseN (c : Int) (i : Nat) : List Nat := (List.range i).map fun (j : Nat) => letAt (mixM c (j : Int) 65519 % 26)
theorem baseN_succ (c : Int) (i : Nat) : baseN c (i + 1) = baseN c i ++ [letAt (mixM c (i : Int) 65519 % 26)] := by unfold baseN; rw [List.range_succ, List.map_append]; rfl
theorem baseN_len (c : Int) (i : Nat) : (baseN c i).length = i := by unfold baseN; simp
noncomputable def nmP (c : Int) (k : Nat) : Str := lS ((baseN c 8).take (k + 1))
noncomputable def nmA (b : List Nat) (at' long : Nat) (c : Nat) : Str := lS (b.take at' ++ [c] ++ (b.drop (at' + 1)).take (long - (at' + 1)))
theorem nmP_inj {c : Int} {k l : Nat} (hk : k < 8) (hl : l < 8) (h : nmP c k = nmP c l) : k = l := by
  have := congrArg List.length (lS_inj h)
  rw [List.length_take, List.length_take, baseN_len] at this
  omega
theorem nmA_inj {b : List Nat} {at' long c d : Nat} (h : nmA b at' long c = nmA b at' long d) : c = d := by
  have h1 := lS_inj h
  rw [List.append_assoc, List.append_assoc] at h1
  have h2 := List.append_cancel_left h1
  simpa using h2
noncomputable def sg36 : Str := "abcdefghijklmnopqrstuvwxyz0123456789"
theorem sg36_len : sg36.cps.toList.length = 36 := by decide +kernel
theorem sg36_eq : lets ++ ("0123456789" : Str) = sg36 := by decide +kernel
theorem sgAt_inj0 : ∀ i : Nat, i < 36 → ∀ j : Nat, j < 36 → sg36.cps.toList.getD i 0 = sg36.cps.toList.getD j 0 → i = j := by decide +kernel
theorem sgAt_inj {i j : Int} (hi : 0 ≤ i) (hi2 : i < 36) (hj : 0 ≤ j) (hj2 : j < 36) (h : sgAt i = sgAt j) : i = j := by
  have := sgAt_inj0 i.toNat (by omega) j.toNat (by omega) h
  omega
noncomputable def stepL : List Int := [1, 5, 7, 11, 17, 25]
noncomputable def stepM (c : Int) : Int := stepL.getD (mixM c 9 65521 % 6).toNat 0
theorem stepM_in (c : Int) : stepM c = 1 ∨ stepM c = 5 ∨ stepM c = 7 ∨ stepM c = 11 ∨ stepM c = 17 ∨ stepM c = 25 := by
  unfold stepM
  generalize hz : (mixM c 9 65521 % 6).toNat = z
  have : z < 6 := by omega
  match z, this with
  | 0, _ => decide
  | 1, _ => decide
  | 2, _ => decide
  | 3, _ => decide
  | 4, _ => decide
  | 5, _ => decide
noncomputable def sgn (c : Int) (at' : Nat) (k : Nat) : Nat := if 0 < at' then sgAt ((c / 64 + (k : Int) * stepM c) % 36) else letAt ((c / 64 + (k : Int) * stepM c) % 26)
theorem sgn_inj {c : Int} {at' k l : Nat} (hk : k < 24) (hl : l < 24) (h : sgn c at' k = sgn c at' l) : k = l := by
  unfold sgn at h
  have hs := stepM_in c
  generalize stepM c = s at h hs
  generalize c / 64 = x at h
  by_cases ha : 0 < at'
  · rw [if_pos ha, if_pos ha] at h
    have := sgAt_inj (by omega) (by omega) (by omega) (by omega) h
    rcases hs with rfl | rfl | rfl | rfl | rfl | rfl <;> omega
  · rw [if_neg ha, if_neg ha] at h
    have := letAt_inj (by omega) (by omega) (by omega) (by omega) h
    rcases hs with rfl | rfl | rfl | rfl | rfl | rfl <;> omega
theorem nodup_range_map {f : Nat → Str} {n : Nat} (h : ∀ k l, k < n → l < n → f k = f l → k = l) : ((List.range n).map f).Nodup := by
  rw [List.nodup_iff_pairwise_ne, List.pairwise_map]
  refine List.Pairwise.imp_of_mem ?_ (List.nodup_range (n := n))
  intro a b ha hb hne e
  exact hne (h a b (List.mem_range.mp ha) (List.mem_range.mp hb) e)
theorem nodup_rev {l : List Str} (h : l.Nodup) : l.reverse.Nodup := List.pairwise_reverse.mpr (h.imp fun e => Ne.symm e)
theorem range_map_succ {α : Type} (f : Nat → α) (n : Nat) : (List.range (n + 1)).map f = (List.range n).map f ++ [f n] := by rw [List.range_succ, List.map_append]; rfl
theorem cut_take {xs : List V} {k : Nat} (h : k ≤ xs.length) : cutV xs none (some ((k : Nat) : Int)) = xs.take k := by
  unfold cutV
  rw [HT.sIx_none, HT.sIx_nat, Nat.min_eq_left h, List.drop_zero, Nat.sub_zero]
theorem cut_mid (xs : List V) (i j : Nat) (hij : i ≤ j) (hj : j ≤ xs.length) : cutV xs (some (i : Int)) (some (j : Int)) = (xs.drop i).take (j - i) := by
  unfold cutV
  rw [HT.sIx_nat, HT.sIx_nat, Nat.min_eq_left hj, Nat.min_eq_left (Nat.le_trans hij hj)]
noncomputable def spCell (K : PySem.W.Frag) : Sp := fun vs H Q _ => ∃ (a : Addr) (ns : List Int) (k : Int), vs = [.ref a, .int k] ∧ SqL K H a (ns.map V.int) ∧ 0 ≤ k ∧ ∀ c : Int, Q (.int c) H
theorem ok_cell (T : Txt K mg) : L2.Cl P w K mg base 1 "_law_cell_at" ["_law_script", "_law_k"] (spCell K) := by
  refine Cl.of T.d_law_cell_at sc_law_cell_at (fun vs H Q E h => ?_) (fun _ _ _ _ _ _ us hl => by obtain ⟨a, b, rfl⟩ := len2 hl; rfl) (fun f cdv A outer s H vs Q E hr h => ?_)
  · obtain ⟨a, ns, k, rfl, _⟩ := h
    rfl
  · obtain ⟨a, ns, k, rfl, hS, hk, q⟩ := h
    refine ⟨_, (pss_cons (ps_if (pt_cmpR op_lt (pv 1) (pe_callB call_len_seq (by rfl) T.n_len PySem.boot_len (pa_cons (pv 0) pa_nil)) (nomark _))
        (pss_one (ps_ret (pe_ix ix_list (pv 0) (pv 1) (fun _ _ => rfl)))) pss_nil)
      (pss_one (ps_ret pe_int))), ?_⟩
    refine ⟨_, rfl, _, rfl, a, _, rfl, .inl hS, _, _, rfl, rfl, _, rfl, ?_⟩
    refine ite2 (fun hlt => ?_) (fun hlt => ?_)
    · have hlt' : k < (ns.length : Int) := by simpa using hlt
      refine ⟨_, rfl, _, rfl, a, _, _, _, rfl, rfl, hS, atI_map V.int ns 0 hk hlt', ?_⟩
      exact q _
    · exact q 0
noncomputable def spMixed : Sp := fun vs H Q _ => ∃ c k p : Int, vs = [.int c, .int k, .int p] ∧ 0 ≤ k ∧ k < 1000 ∧ 0 < p ∧ Q (.int (mixM c k p)) H
theorem ok_mixed (T : Txt K mg) : L2.Cl P w K mg base 1 "_law_mixed" ["_law_cell", "_law_k", "_law_prime"] spMixed := by
  refine Cl.of T.d_law_mixed sc_law_mixed (fun vs H Q E h => ?_) (fun _ _ _ _ _ _ us hl => by obtain ⟨a, b, c, rfl⟩ := len3 hl; rfl) (fun f cdv A outer s H vs Q E hr h => ?_)
  · obtain ⟨c, k, p, rfl, _⟩ := h
    rfl
  · obtain ⟨c, k, p, rfl, hk, hk2, hp, q⟩ := h
    refine ⟨_, (pss_one (ps_ret (pe_op op_mod (pe_op op_add (pe_op op_add (pe_op op_mul (pv 0) pe_int) (pe_op op_mul (pe_op op_mul pe_int (pv 1)) (pv 1))) (pe_op op_mul pe_int (pv 1))) (pv 2)))), ?_⟩
    exact ⟨_, rfl, _, _, rfl, rfl, .inr ⟨by decide, by decide⟩, _, rfl, _, _, rfl, rfl, .inl ⟨by decide, by decide⟩, _, rfl, _, _, rfl, rfl, .inr ⟨by omega, by omega⟩, _, _, rfl, rfl, _, rfl, _, _, rfl, rfl, .inl ⟨by decide, by decide⟩, _, _, rfl, rfl, _, rfl, _, _, rfl, rfl, hp, q⟩
noncomputable def spNms : Sp := fun vs H Q _ => ∃ (c n : Int), vs = [.int c, .int n] ∧ 1 ≤ n ∧ n ≤ 24 ∧ ∀ (l : Addr) (ns : List Str) (H' : Hp), Same H H' → H l = none → H' l = some (.lst (ns.map V.str)) → ns.length = n.toNat → ns.Nodup → Q (.ref l) H'
theorem ok_names (T : Txt K mg) : L2.Cl P w K mg base 2 "_law_names" ["_law_cell", "_law_many"] spNms := by
  have C_law_mixed := ok_mixed (P := P) (w := w) (base := base) T
  refine Cl.of T.d_law_names sc_law_names (fun vs H Q E h => ?_) (fun _ _ _ _ _ _ us hl => by obtain ⟨a, b, rfl⟩ := len2 hl; rfl) (fun f cdv A outer s H vs Q E hr h => ?_)
  · obtain ⟨c, n, rfl, _⟩ := h
    rfl
  · obtain ⟨c, n, rfl, hn1, hn2, q⟩ := h
    refine ⟨_, (pss_cons (ps_set (i := 2) sc_law_names.nd rfl (Or.inr rfl) pe_str)
      (pss_cons (ps_set (i := 3) sc_law_names.nd rfl (Or.inl rfl) (pe_op op_add_str (pv 2) pe_str))
      (pss_cons (ps_set (i := 4) sc_law_names.nd rfl (Or.inr rfl) (pe_comp (M := ["_law_k", "_law_letters", "_law_cell"]) (ρ := [none, some 2, some 0]) (defScope s_law_names) ["_law_cell", "_law_many", "_law_letters", "_law_signs", "_law_base", "_law_names_here", "_law_long", "_law_at", "_law_step", "_law_k", "_law_sign"] ⟨rfl, by decide +kernel, by decide +kernel, by decide +kernel, rfl, by decide +kernel, by decide +kernel⟩ (pi_range1 (by rfl) T.n_range (pa_cons pe_int pa_nil)) (fun _ _ _ _ _ _ => (pg_name (i := 0) (show (["_law_k", "_law_letters", "_law_cell"] : List Str).Nodup by decide +kernel) rfl (Or.inl rfl))) (fun _ _ _ _ _ _ => pts_nil) (fun _ _ _ _ _ _ => (pe_ix ix_str (pv 1) (pe_op op_mod (pe_fn C_law_mixed hr (by rfl) (pa_cons (pv 2) (pa_cons (pv 0) (pa_cons pe_int pa_nil)))) pe_int) (fun _ _ => rfl)))))
      (pss_cons (ps_if (PW.pt (pw_and (pt_cmpR op_eq (pe_op op_mod (pe_op op_fdiv (pv 0) pe_int) pe_int) pe_int (nomark _)) (pw_and1 (pt_cmpR op_lt (pv 1) pe_int (nomark _)))))
        (pss_one (ps_setC (j := 5) (M := ["_law_k", "_law_base"]) (ρ := [none, some 4]) (defScope s_law_names) ["_law_cell", "_law_many", "_law_letters", "_law_signs", "_law_base", "_law_names_here", "_law_long", "_law_at", "_law_step", "_law_k", "_law_sign"] ⟨rfl, by decide +kernel, by decide +kernel, by decide +kernel, rfl, by decide +kernel, by decide +kernel⟩ sc_law_names.nd rfl (Or.inl rfl) (pi_range1 (by rfl) T.n_range (pa_cons (pv 1) pa_nil)) (fun _ _ _ _ _ _ => (pg_name (i := 0) (show (["_law_k", "_law_base"] : List Str).Nodup by decide +kernel) rfl (Or.inl rfl))) (fun _ _ _ _ _ _ => pts_nil) (fun _ _ _ _ _ _ => (pe_bmK (K := K) rfl PySem.F.plainAttrs_str PySem.F.slot_str_join PySem.F.type_str_join (mt_joinK (K := K) rfl) pe_str (pa_cons (pe_slice (sl_listK (K := K) rfl) (pv 1) po_none (po_some (pe_op op_add (pv 0) pe_int))) pa_nil))))) (pss_cons (ps_set (i := 6) sc_law_names.nd rfl (Or.inl rfl) (pe_op op_add pe_int (pe_op op_mod (pv 0) pe_int)))
        (pss_cons (ps_set (i := 7) sc_law_names.nd rfl (Or.inl rfl) (pe_op op_mod (pe_op op_fdiv (pv 0) pe_int) (pv 6)))
        (pss_cons (ps_set (i := 8) sc_law_names.nd rfl (Or.inl rfl) (pe_ix ix_list (pe_lst (pa_cons pe_int (pa_cons pe_int (pa_cons pe_int (pa_cons pe_int (pa_cons pe_int (pa_cons pe_int pa_nil))))))) (pe_op op_mod (pe_fn C_law_mixed hr (by rfl) (pa_cons (pv 0) (pa_cons pe_int (pa_cons pe_int pa_nil)))) pe_int) (fun _ _ => rfl)))
        (pss_cons (ps_set (i := 5) sc_law_names.nd rfl (Or.inl rfl) (pe_lst pa_nil))
        (pss_one (ps_for PassesOwn.never rfl (pi_range1 (by rfl) T.n_range (pa_cons (pv 1) pa_nil)) (pg_name (i := 9) sc_law_names.nd rfl (Or.inl rfl))
          (pss_cons (ps_set (i := 10) sc_law_names.nd rfl (Or.inl rfl) (pe_ix ix_str (pv 2) (pe_op op_mod (pe_op op_add (pe_op op_fdiv (pv 0) pe_int) (pe_op op_mul (pv 9) (pv 8))) pe_int) (fun _ _ => rfl)))
          (pss_cons (ps_if (pt_cmpR op_gt (pv 7) pe_int (nomark _))
            (pss_one (ps_set (i := 10) sc_law_names.nd rfl (Or.inl rfl) (pe_ix ix_str (pv 3) (pe_op op_mod (pe_op op_add (pe_op op_fdiv (pv 0) pe_int) (pe_op op_mul (pv 9) (pv 8))) pe_int) (fun _ _ => rfl)))) pss_nil)
          (pss_one (ps_expr (pe_bm PySem.F.plainAttrs_list PySem.F.slot_list_append PySem.F.type_list_append mt_append (pv 5) (pa_cons (pe_op op_add_str (pe_op op_add_str (pe_bm PySem.F.plainAttrs_str PySem.F.slot_str_join PySem.F.type_str_join mt_join pe_str (pa_cons (pe_slice sl_list (pv 4) po_none (po_some (pv 7))) pa_nil)) (pv 10)) (pe_bm PySem.F.plainAttrs_str PySem.F.slot_str_join PySem.F.type_str_join mt_join pe_str (pa_cons (pe_slice sl_list (pv 4) (po_some (pe_op op_add (pv 7) pe_int)) (po_some (pv 6))) pa_nil))) pa_nil)))))))))))))
      (pss_cons (ps_if (pt_cmpR op_eq (pe_op op_mod (pe_op op_fdiv (pv 0) pe_int) pe_int) pe_int (nomark _))
        (pss_one (ps_expr (pe_bm0 PySem.F.plainAttrs_list PySem.F.slot_list_reverse PySem.F.type_list_reverse mt_reverse (pv 5)))) pss_nil)
      (pss_one (ps_ret (pv 5)))))))), ?_⟩
    refine ⟨_, rfl, _, _, rfl, rfl, (by decide +kernel), _, rfl, by decide, by decide, fun B gB => ?_⟩
    refine comp_by 8 (fun i σ H2 => ∃ v0 : Option V, σ = [v0, some (.str lets), some (.int c)] ∧ Same H H2 ∧ H2 B = some (.lst (chs (baseN c i)))) ⟨_, rfl, (Same.refl H).new gB, upd_same⟩ ?_ ?_
    · rintro i σ H2 hi ⟨v0, rfl, s2, hB⟩
      refine ⟨hi, ?_⟩
      rintro x H3 ⟨rfl, rfl⟩
      refine ntG ?_
      refine ⟨_, rfl, _, rfl, _, rfl, c, 0 + (i : Int), 65519, rfl, by omega, by omega, by decide, _, _, rfl, rfl, (by show (0 : Int) < 26; decide), lets, _, _, rfl, rfl, (by decide +kernel), atI_getD _ 0 (by omega) (by rw [lets_len]; omega), ?_⟩
      refine ⟨_, hB, small1000 (by rw [chs_len, baseN_len]; omega), _, rfl, s2.put gB, ?_⟩
      rw [upd_same, baseN_succ, chs_snoc, Int.zero_add]
      rfl
    · rintro σ H2 ⟨v0, rfl, s2, hB⟩
      refine ⟨Nat.le_refl _, ?_⟩
      have gB' : H2 B = some (.lst (chs (baseN c 8))) := hB
      refine g_if_p (a := decide (V.int (c / 5 % 4) = V.int 1) && decide (n < 9)) ?_ ?_
      · exact tand_pure (fun Q' h => ⟨_, rfl, _, _, rfl, rfl, ⟨by decide, by decide⟩, _, _, rfl, rfl, (by show (0 : Int) < 4; decide), rfl, _, rfl, h⟩) (fun Q' h => ⟨_, rfl, _, _, rfl, rfl, _, rfl, h⟩)
      refine ite2 (fun hm => ?_) (fun hm => ?_)
      · have hn9 : n < 9 := by
          rw [Bool.and_eq_true] at hm
          exact of_decide_eq_true hm.2
        refine ⟨_, rfl, _, rfl, by omega, by omega, fun D gD => ?_⟩
        refine comp_by n.toNat (fun i σ H3 => ∃ v0 : Option V, σ = [v0, some (.ref B)] ∧ Same H2 H3 ∧ H3 D = some (.lst (((List.range i).map (nmP c)).map V.str))) ⟨_, rfl, (Same.refl H2).new gD, upd_same⟩ ?_ ?_
        · rintro i σ H3 hi ⟨v0, rfl, s3, hD⟩
          refine ⟨hi, ?_⟩
          rintro x H4 ⟨rfl, rfl⟩
          refine ntG ?_
          refine ⟨rfl, _, rfl, _, rfl, _, _, rfl, rfl, _, rfl, B, _, rfl, SqL.of (s3 _ _ gB'), fun p gp => ?_⟩
          have hcut : cutV (chs (baseN c 8)) none (some (0 + (i : Int) + 1)) = chs ((baseN c 8).take (i + 1)) := by
            rw [show (0 + (i : Int) + 1) = ((i + 1 : Nat) : Int) by omega, cut_take (by rw [chs_len, baseN_len]; omega), chs_take]
          rw [hcut]
          have s4 : Same H2 (upd H4 p (.lst (chs ((baseN c 8).take (i + 1))))) := s3.new gp
          refine ⟨_, p, ((baseN c 8).take (i + 1)).map ch, rfl, rfl, .inr (SqL.of upd_same), (by decide +kernel), (by rw [ch_sum, List.length_map]; have : ((baseN c 8).take (i + 1)).length ≤ 8 := by { rw [List.length_take, baseN_len]; omega }; omega), ?_⟩
          refine ⟨_, upd_keep hD gp, small1000 (by rw [List.length_map, List.length_map, List.length_range]; omega), _, rfl, s4.put gD, ?_⟩
          rw [upd_same, range_map_succ, List.map_append, join0S]
          rfl
        · rintro σ H3 ⟨v0, rfl, s3, hD⟩
          refine ⟨Nat.le_refl _, ?_⟩
          have hnd : ((List.range n.toNat).map (nmP c)).Nodup := nodup_range_map fun k l hk hl e => nmP_inj (by omega) (by omega) e
          have hlen : ((List.range n.toNat).map (nmP c)).length = n.toNat := by simp
          generalize (List.range n.toNat).map (nmP c) = ns at hnd hlen hD
          have gDH : H D = none := s2.free gD
          refine ⟨_, rfl, _, _, rfl, rfl, ⟨by decide, by decide⟩, _, _, rfl, rfl, (by show (0 : Int) < 2; decide), rfl, _, rfl, ?_⟩
          refine ite2I (fun _ => ?_) (fun _ => ?_)
          · refine ⟨_, rfl, .inl ⟨rfl, _, SqL.of hD⟩, D, _, rfl, rfl, hD, ?_⟩
            refine ⟨_, rfl, q D ns.reverse _ ((s2.trans s3).put gDH) gDH (by rw [upd_same, List.map_reverse]) (by rw [List.length_reverse, hlen]) (nodup_rev hnd)⟩
          · exact ⟨_, rfl, q D ns _ (s2.trans s3) gDH hD hlen hnd⟩
      · refine ⟨_, rfl, _, _, rfl, rfl, (by show (0 : Int) < 8; decide), _, _, rfl, rfl, ?_⟩
        refine ⟨_, rfl, _, _, rfl, rfl, ⟨by decide, by decide⟩, _, rfl, _, _, rfl, rfl, (by show (0 : Int) < 1 + c % 8; omega), ?_⟩
        obtain ⟨lg, hlg, hlg1⟩ : ∃ lg : Nat, 1 + c % 8 = (lg : Int) ∧ 1 ≤ lg ∧ lg ≤ 8 := ⟨(1 + c % 8).toNat, by omega, by omega, by omega⟩
        rw [hlg]
        obtain ⟨at', hat, hat1⟩ : ∃ a : Nat, c / 8 % (lg : Int) = (a : Int) ∧ a < lg := ⟨(c / 8 % (lg : Int)).toNat, by have := Int.emod_nonneg (c / 8) (show (lg : Int) ≠ 0 by omega); omega, by have := Int.emod_lt_of_pos (c / 8) (show 0 < (lg : Int) by omega); have := Int.emod_nonneg (c / 8) (show (lg : Int) ≠ 0 by omega); omega⟩
        show gName 7 (V.int (c / 8 % (lg : Int))) _ _ _
        rw [hat]
        refine ⟨(by show 6 ≤ sizeLine; decide), fun st gst => ?_⟩
        have s3 : Same H2 (upd H2 st (.lst [.int 1, .int 5, .int 7, .int 11, .int 17, .int 25])) := (Same.refl H2).new gst
        refine ⟨_, rfl, c, 9, 65521, rfl, by decide, by decide, by decide, _, _, rfl, rfl, (by show (0 : Int) < 6; decide), st, _, _, _, rfl, rfl, SqL.of upd_same, atI_map V.int stepL 0 (by omega) (by show mixM c 9 65521 % 6 < 6; omega), ?_⟩
        generalize upd H2 st (.lst [.int 1, .int 5, .int 7, .int 11, .int 17, .int 25]) = H3 at s3 ⊢
        refine ⟨(by show 0 ≤ sizeLine; decide), fun D gD => ?_⟩
        have s4 : Same H2 (upd H3 D (.lst [])) := s3.new gD
        have gD2 : H2 D = none := s3.free gD
        have gDH : H D = none := s2.free gD2
        refine ⟨_, rfl, _, rfl, by omega, by omega, for_range (fun i σ H5 => ∃ v9 v10 : Option V, σ = [some (.int c), some (.int n), some (.str lets), some (.str sg36), some (.ref B), some (.ref D), some (.int (lg : Int)), some (.int (at' : Int)), some (.int (stepM c)), v9, v10] ∧ Same H2 H5 ∧ H5 D = some (.lst (((List.range i).map fun k => nmA (baseN c 8) at' lg (sgn c at' k)).map V.str)))
          ⟨none, none, ?_, s4, upd_same⟩ ?_ ?_⟩
        · rw [← sg36_eq, ← hlg]; rfl
        · rintro i σ H5 hi ⟨v9, v10, rfl, s5, hD⟩
          have hst := stepM_in c
          refine ⟨_, rfl, _, rfl, _, _, rfl, rfl, ⟨by decide, by decide⟩, _, rfl, _, rfl, _, _, rfl, rfl, .inl ⟨by omega, by omega⟩, _, _, rfl, rfl, _, _, rfl, rfl, (by show (0 : Int) < 26; decide), lets, _, _, rfl, rfl, (by decide +kernel), atI_getD _ 0 (by omega) (by rw [lets_len]; omega), ?_⟩
          have hb1 : ((baseN c 8).take at').length ≤ 8 := by rw [List.length_take, baseN_len]; omega
          have hb2 : (((baseN c 8).drop (at' + 1)).take (lg - (at' + 1))).length ≤ 8 := by rw [List.length_take, List.length_drop, baseN_len]; omega
          rw [Int.zero_add]
          refine ⟨_, rfl, _, _, rfl, rfl, _, rfl, ?_⟩
          refine ite2 (fun hpos => ?_) (fun hpos => ?_)
          · have hpos' : 0 < at' := by have := of_decide_eq_true hpos; omega
            refine ⟨_, rfl, _, rfl, _, _, rfl, rfl, ⟨by decide, by decide⟩, _, rfl, _, rfl, _, _, rfl, rfl, .inl ⟨by omega, by omega⟩, _, _, rfl, rfl, _, _, rfl, rfl, (by show (0 : Int) < 36; decide), sg36, _, _, rfl, rfl, (by decide +kernel), atI_getD _ 0 (by omega) (by rw [sg36_len]; omega), ?_⟩
            refine ⟨_, rfl, .inl ⟨rfl, _, SqL.of hD⟩, rfl, _, rfl, _, rfl, _, rfl, B, _, rfl, SqL.of (s5 _ _ gB'), fun p gp => ?_⟩
            rw [cut_take (by rw [chs_len, baseN_len]; omega), chs_take]
            have s6 : Same H2 (upd H5 p (.lst (chs ((baseN c 8).take at')))) := s5.new gp
            refine ⟨_, p, ((baseN c 8).take at').map ch, rfl, rfl, .inr (SqL.of upd_same), (by decide +kernel), (by rw [ch_sum, List.length_map]; omega), ?_⟩
            rw [join0S]
            refine ⟨_, rfl, lS ((baseN c 8).take at'), ch (sgAt ((c / 64 + (i : Int) * stepM c) % 36)), rfl, rfl, (by rw [lS_len]; show _ + 1 ≤ sizeLine; exact Nat.le_of_lt (small1000 (by omega))), ?_⟩
            refine ⟨rfl, _, rfl, _, rfl, _, _, rfl, rfl, _, rfl, _, rfl, _, rfl, B, _, rfl, SqL.of (s6 _ _ gB'), fun p2 gp2 => ?_⟩
            rw [show ((at' : Int) + 1) = ((at' + 1 : Nat) : Int) by omega, cut_mid _ _ _ (by omega) (by rw [chs_len, baseN_len]; omega), chs_drop, chs_take]
            have s7 := s6.new (o := .lst (chs (((baseN c 8).drop (at' + 1)).take (lg - (at' + 1))))) gp2
            refine ⟨_, p2, (((baseN c 8).drop (at' + 1)).take (lg - (at' + 1))).map ch, rfl, rfl, .inr (SqL.of upd_same), (by decide +kernel), (by rw [ch_sum, List.length_map]; omega), ?_⟩
            rw [join0S]
            refine ⟨lS ((baseN c 8).take at') ++ ch (sgAt ((c / 64 + (i : Int) * stepM c) % 36)), lS (((baseN c 8).drop (at' + 1)).take (lg - (at' + 1))), rfl, rfl, (by rw [Str.length_append, lS_len, lS_len]; show _ + 1 + _ ≤ sizeLine; exact Nat.le_of_lt (small1000 (by omega))), ?_⟩
            refine ⟨D, _, _, rfl, rfl, upd_keep (upd_keep hD gp) gp2, small1000 (by rw [List.length_map, List.length_map, List.length_range]; omega), ?_⟩
            refine ⟨_, _, rfl, s7.put gD2, ?_⟩
            rw [upd_same, range_map_succ, List.map_append]
            have e : lS ((baseN c 8).take at') ++ ch (sgAt ((c / 64 + (i : Int) * stepM c) % 36)) ++ lS (((baseN c 8).drop (at' + 1)).take (lg - (at' + 1))) = nmA (baseN c 8) at' lg (sgn c at' i) := by
              unfold nmA sgn
              rw [if_pos hpos', ch_lS, lS_app, lS_app]
            rw [e]
            rfl
          · have hpos' : ¬ 0 < at' := fun z => hpos (decide_eq_true (by omega))
            refine ⟨_, rfl, .inl ⟨rfl, _, SqL.of hD⟩, rfl, _, rfl, _, rfl, _, rfl, B, _, rfl, SqL.of (s5 _ _ gB'), fun p gp => ?_⟩
            rw [cut_take (by rw [chs_len, baseN_len]; omega), chs_take]
            have s6 : Same H2 (upd H5 p (.lst (chs ((baseN c 8).take at')))) := s5.new gp
            refine ⟨_, p, ((baseN c 8).take at').map ch, rfl, rfl, .inr (SqL.of upd_same), (by decide +kernel), (by rw [ch_sum, List.length_map]; omega), ?_⟩
            rw [join0S]
            refine ⟨_, rfl, lS ((baseN c 8).take at'), ch (letAt ((c / 64 + (i : Int) * stepM c) % 26)), rfl, rfl, (by rw [lS_len]; show _ + 1 ≤ sizeLine; exact Nat.le_of_lt (small1000 (by omega))), ?_⟩
            refine ⟨rfl, _, rfl, _, rfl, _, _, rfl, rfl, _, rfl, _, rfl, _, rfl, B, _, rfl, SqL.of (s6 _ _ gB'), fun p2 gp2 => ?_⟩
            rw [show ((at' : Int) + 1) = ((at' + 1 : Nat) : Int) by omega, cut_mid _ _ _ (by omega) (by rw [chs_len, baseN_len]; omega), chs_drop, chs_take]
            have s7 := s6.new (o := .lst (chs (((baseN c 8).drop (at' + 1)).take (lg - (at' + 1))))) gp2
            refine ⟨_, p2, (((baseN c 8).drop (at' + 1)).take (lg - (at' + 1))).map ch, rfl, rfl, .inr (SqL.of upd_same), (by decide +kernel), (by rw [ch_sum, List.length_map]; omega), ?_⟩
            rw [join0S]
            refine ⟨lS ((baseN c 8).take at') ++ ch (letAt ((c / 64 + (i : Int) * stepM c) % 26)), lS (((baseN c 8).drop (at' + 1)).take (lg - (at' + 1))), rfl, rfl, (by rw [Str.length_append, lS_len, lS_len]; show _ + 1 + _ ≤ sizeLine; exact Nat.le_of_lt (small1000 (by omega))), ?_⟩
            refine ⟨D, _, _, rfl, rfl, upd_keep (upd_keep hD gp) gp2, small1000 (by rw [List.length_map, List.length_map, List.length_range]; omega), ?_⟩
            refine ⟨_, _, rfl, s7.put gD2, ?_⟩
            rw [upd_same, range_map_succ, List.map_append]
            have e : lS ((baseN c 8).take at') ++ ch (letAt ((c / 64 + (i : Int) * stepM c) % 26)) ++ lS (((baseN c 8).drop (at' + 1)).take (lg - (at' + 1))) = nmA (baseN c 8) at' lg (sgn c at' i) := by
              unfold nmA sgn
              rw [if_neg hpos', ch_lS, lS_app, lS_app]
            rw [e]
            rfl
        · rintro σ H5 ⟨v9, v10, rfl, s5, hD⟩
          have hnd : ((List.range n.toNat).map fun k => nmA (baseN c 8) at' lg (sgn c at' k)).Nodup := nodup_range_map fun k l hk hl e => sgn_inj (by omega) (by omega) (nmA_inj e)
          have hlen : ((List.range n.toNat).map fun k => nmA (baseN c 8) at' lg (sgn c at' k)).length = n.toNat := by simp
          generalize ((List.range n.toNat).map fun k => nmA (baseN c 8) at' lg (sgn c at' k)) = ns at hnd hlen hD
          refine ⟨_, rfl, _, _, rfl, rfl, ⟨by decide, by decide⟩, _, _, rfl, rfl, (by show (0 : Int) < 2; decide), rfl, _, rfl, ?_⟩
          refine ite2I (fun _ => ?_) (fun _ => ?_)
          · refine ⟨_, rfl, .inl ⟨rfl, _, SqL.of hD⟩, D, _, rfl, rfl, hD, ?_⟩
            refine ⟨_, rfl, q D ns.reverse _ ((s2.trans s5).put gDH) gDH (by rw [upd_same, List.map_reverse]) (by rw [List.length_reverse, hlen]) (nodup_rev hnd)⟩
          · exact ⟨_, rfl, q D ns _ (s2.trans s5) gDH hD hlen hnd⟩
theorem to_g {X R : TS} {D : Ends} {r : VK} {b k : L2.St → Hp → Prop} {i : Nat} {v : V} {σ : L2.St} {H : Hp} (h : tSeq X R D (σ.set i (some v)) H) : gName i v σ H (Ends.nx ⟨tSeq X R D, r, b, k⟩) := h
theorem to_n {X R : TS} {D : Ends} {r : VK} {b k : L2.St → Hp → Prop} {σ : L2.St} {H : Hp} (h : tSeq X R D σ H) : tNext ⟨tSeq X R D, r, b, k⟩ σ H := h
theorem if_and_new {c1 c2 : TT} {A B R : TS} {D : Ends} {σ : L2.St} {H : Hp} {a b : Bool} (h1 : ∀ Q : Bool → Hp → Prop, Q a H → c1 σ H Q) (h2 : ∀ Q : Bool → Hp → Prop, (∀ z, H z = none → Q b (upd H z (.lst []))) → c2 σ H Q)
    (hA : (a && b) = true → ∀ H1, Same H H1 → A { D with nx := R D } σ H1) (hB : (a && b) = false → ∀ H1, Same H H1 → B { D with nx := R D } σ H1) : tSeq (tIfS (tAnd c1 c2) A B) R D σ H := by
  refine h1 _ ?_
  cases a with
  | false => exact iteF (iteF (hB rfl H (Same.refl H)))
  | true =>
    refine iteT (h2 _ fun z gz => ?_)
    cases b with
    | true => exact iteT (hA rfl _ ((Same.refl H).new gz))
    | false => exact iteF (hB rfl _ ((Same.refl H).new gz))
theorem if_or_new {c1 c2 : TT} {A B R : TS} {D : Ends} {σ : L2.St} {H : Hp} {a b : Bool} (h1 : ∀ Q : Bool → Hp → Prop, (∀ z, H z = none → Q a (upd H z (.lst []))) → c1 σ H Q) (h2 : ∀ H1, Same H H1 → ∀ Q : Bool → Hp → Prop, Q b H1 → c2 σ H1 Q)
    (hA : (a || b) = true → ∀ H1, Same H H1 → A { D with nx := R D } σ H1) (hB : (a || b) = false → ∀ H1, Same H H1 → B { D with nx := R D } σ H1) : tSeq (tIfS (tOr c1 c2) A B) R D σ H := by
  refine h1 _ fun z gz => ?_
  have s : Same H (upd H z (.lst [])) := (Same.refl H).new gz
  cases a with
  | true => exact iteT (iteT (hA rfl _ s))
  | false =>
    refine iteF (h2 _ s _ ?_)
    cases b with
    | true => exact iteT (hA rfl _ s)
    | false => exact iteF (hB rfl _ s)
theorem set_ifexp {t : TT} {ta tb : TE} {R : TS} {g : TG} {D : Ends} {σ : L2.St} {H : Hp} {a : Bool} {x : V} (ht : ∀ Q : Bool → Hp → Prop, Q a H → t σ H Q) (hA : a = true → ∀ Q : VK, Q x H → ta σ H Q) (hB : a = false → ∀ Q : VK, Q x H → tb σ H Q) (q : g x σ H (R D)) : tSeq (tAsg (tIf t ta tb) g) R D σ H := by
  refine ht _ ?_
  cases a with
  | true => exact iteT (hA rfl _ q)
  | false => exact iteF (hB rfl _ q)
noncomputable def spOther : Sp := fun vs H Q _ => ∃ (i n m d : Int), vs = [.int i, .int n, .int m, .int d] ∧ 0 ≤ i ∧ i < n ∧ n ≤ 24 ∧ ∀ j : Int, 0 ≤ j → j < n → Q (.int j) H
theorem ok_other (T : Txt K mg) : L2.Cl P w K mg base 1 "_law_other" ["_law_here", "_law_many", "_law_mix", "_law_mode"] spOther := by
  refine Cl.of T.d_law_other sc_law_other (fun vs H Q E h => ?_) (fun _ _ _ _ _ _ us hl => by obtain ⟨a, b, c, d, rfl⟩ := len4 hl; rfl) (fun f cdv A outer s H vs Q E hr h => ?_)
  · obtain ⟨i, n, m, d, rfl, _⟩ := h
    rfl
  · obtain ⟨i, n, m, d, rfl, hi, hin, hn, q⟩ := h
    refine ⟨_, (pss_cons (ps_if (PW.pt (pw_and (pt_cmpR op_gt (pv 1) pe_int (nomark _)) (pw_and1 (PW.pt (pw_or (pt_cmpR op_eq (pe_op op_mod (pv 3) pe_int) pe_int (nomark _)) (pw_or1 (PW.pt (pw_and (pt_cmpR op_eq (pe_op op_mod (pv 3) pe_int) pe_int (nomark _)) (pw_and1 (pt_cmpR op_eq (pe_op op_mod (pv 2) pe_int) pe_int (nomark _)))))))))))
        (pss_one (ps_ret (pe_op op_mod (pe_op op_add (pe_op op_add (pv 0) pe_int) (pe_op op_mod (pe_op op_fdiv (pv 2) pe_int) (pe_op op_sub (pv 1) pe_int))) (pv 1)))) pss_nil)
      (pss_cons (ps_if (PW.pt (pw_and (pt_cmpR op_eq (pe_op op_fdiv (pv 3) pe_int) pe_int (nomark _)) (pw_and1 (pt_cmpR op_lt (pe_op op_add (pv 0) pe_int) (pv 1) (nomark _)))))
        (pss_one (ps_ret (pe_op op_add (pe_op op_add (pv 0) pe_int) (pe_op op_mod (pe_op op_fdiv (pv 2) pe_int) (pe_op op_sub (pe_op op_sub (pv 1) pe_int) (pv 0)))))) pss_nil)
      (pss_cons (ps_if (PW.pt (pw_and (pt_cmpR op_eq (pe_op op_fdiv (pv 3) pe_int) pe_int (nomark _)) (pw_and1 (pt_cmpR op_gt (pv 0) pe_int (nomark _)))))
        (pss_one (ps_ret (pe_op op_mod (pe_op op_fdiv (pv 2) pe_int) (pv 0)))) pss_nil)
      (pss_one (ps_ret (pv 0)))))), ?_⟩
    refine s_if_p (a := decide (1 < n) && (decide (V.int (d % 3) = V.int 0) || (decide (V.int (d % 3) = V.int 1) && decide (V.int (m % 5) = V.int 0)))) ?_ ?_
    · exact tand_pure (fun Q' h => ⟨_, rfl, _, _, rfl, rfl, _, rfl, h⟩) (tor_pure (fun Q' h => ⟨_, rfl, _, _, rfl, rfl, (by show (0 : Int) < 3; decide), rfl, _, rfl, h⟩) (tand_pure (fun Q' h => ⟨_, rfl, _, _, rfl, rfl, (by show (0 : Int) < 3; decide), rfl, _, rfl, h⟩) (fun Q' h => ⟨_, rfl, _, _, rfl, rfl, (by show (0 : Int) < 5; decide), rfl, _, rfl, h⟩)))
    refine ite2 (fun hc => ?_) (fun _ => ?_)
    · have h1 : 1 < n := by
        rw [Bool.and_eq_true] at hc
        exact of_decide_eq_true hc.1
      exact ⟨_, rfl, _, _, rfl, rfl, _, rfl, _, _, rfl, rfl, ⟨by decide, by decide⟩, _, rfl, _, _, rfl, rfl, _, _, rfl, rfl, (by show (0 : Int) < n - 1; omega), _, _, rfl, rfl, _, rfl, _, _, rfl, rfl, (by show (0 : Int) < n; omega), q _ (Int.emod_nonneg _ (by omega)) (Int.emod_lt_of_pos _ (by omega))⟩
    refine to_n ?_
    refine s_if_p (a := decide (V.int (d / 3) = V.int 0) && decide (i + 1 < n)) ?_ ?_
    · exact tand_pure (fun Q' h => ⟨_, rfl, _, _, rfl, rfl, ⟨by decide, by decide⟩, rfl, _, rfl, h⟩) (fun Q' h => ⟨_, rfl, _, _, rfl, rfl, _, rfl, _, _, rfl, rfl, _, rfl, h⟩)
    refine ite2 (fun hc => ?_) (fun _ => ?_)
    · have h1 : i + 1 < n := by
        rw [Bool.and_eq_true] at hc
        exact of_decide_eq_true hc.2
      have h2 := Int.emod_nonneg (m / 5) (show n - 1 - i ≠ 0 by omega)
      have h3 := Int.emod_lt_of_pos (m / 5) (show 0 < n - 1 - i by omega)
      exact ⟨_, rfl, _, _, rfl, rfl, _, rfl, _, _, rfl, rfl, ⟨by decide, by decide⟩, _, rfl, _, _, rfl, rfl, _, rfl, _, _, rfl, rfl, _, _, rfl, rfl, (by show (0 : Int) < n - 1 - i; omega), _, _, rfl, rfl, q _ (by omega) (by omega)⟩
    refine to_n ?_
    refine s_if_p (a := decide (V.int (d / 3) = V.int 1) && decide (0 < i)) ?_ ?_
    · exact tand_pure (fun Q' h => ⟨_, rfl, _, _, rfl, rfl, ⟨by decide, by decide⟩, rfl, _, rfl, h⟩) (fun Q' h => ⟨_, rfl, _, _, rfl, rfl, _, rfl, h⟩)
    refine ite2 (fun hc => ?_) (fun _ => ?_)
    · have h1 : 0 < i := by
        rw [Bool.and_eq_true] at hc
        exact of_decide_eq_true hc.2
      have h2 := Int.emod_nonneg (m / 5) (show i ≠ 0 by omega)
      have h3 := Int.emod_lt_of_pos (m / 5) h1
      exact ⟨_, rfl, _, _, rfl, rfl, ⟨by decide, by decide⟩, _, rfl, _, _, rfl, rfl, h1, q _ (by omega) (by omega)⟩
    exact ⟨_, rfl, q _ hi hin⟩
noncomputable def But2 (a b : Addr) (H H' : Hp) : Prop := ∀ c o, c ≠ a → c ≠ b → H c = some o → H' c = some o
theorem But2.of {a b : Addr} {H H' : Hp} (s : Same H H') : But2 a b H H' := fun c o _ _ h => s c o h
theorem But2.same {a b : Addr} {H H1 H2 : Hp} (h : But2 a b H H1) (s : Same H1 H2) : But2 a b H H2 := fun c o h1 h2 h3 => s _ _ (h c o h1 h2 h3)
theorem But2.put1 {a b : Addr} {H H1 : Hp} {o : HO} (h : But2 a b H H1) : But2 a b H (upd H1 a o) := fun c o' h1 h2 h3 => by
  rw [upd_ne h1]
  exact h c o' h1 h2 h3
theorem But2.put2 {a b : Addr} {H H1 : Hp} {o : HO} (h : But2 a b H H1) : But2 a b H (upd H1 b o) := fun c o' h1 h2 h3 => by
  rw [upd_ne h2]
  exact h c o' h1 h2 h3
noncomputable def vN (c : Str) (n : Nat) : Str := c ++ Str.ofString (toString (n : Int))
theorem v_ok : ∀ n : Nat, n < 100 → NameOk (vN "v" n) := by decide +kernel
theorem g_ok : ∀ n : Nat, n < 100 → NameOk (vN "g" n) := by decide +kernel
theorem vN_len : ∀ n : Nat, n < 100 → (Str.ofString (toString ((n : Nat) : Int))).length ≤ 8 := by decide +kernel
noncomputable def MoreOf (ms ms' : List Str) : Prop := ms' = ms ∨ ∃ x, NameOk x ∧ ms' = ms ++ [x]
noncomputable def Toward (o : Option Str) : Rw → Prop
  | .bring p _ => o = some p
  | .ask p _ => o = some p
  | _ => True
noncomputable def spRow : Sp := fun vs H Q _ => ∃ (kd mx : Int) (o : Option Str) (m g u : Addr) (ms gs us : List Str), vs = [.int kd, .int mx, optV o, .ref m, .ref g, .ref u] ∧ 0 ≤ mx ∧ mx < 1000000 ∧ H m = some (.lst (ms.map V.str)) ∧ H g = some (.lst (gs.map V.str)) ∧ H u = some (.lst (us.map V.str)) ∧ m ≠ g ∧ m ≠ u ∧ ms.length < 100 ∧ gs.length < 100 ∧ us.length < 100 ∧ (∀ x ∈ ms, NameOk x) ∧ (∀ x ∈ gs, NameOk x) ∧ (∀ x ∈ us, NameOk x) ∧
  ∀ (r : Addr) (rw : Rw) (ms' gs' : List Str) (H' : Hp), But2 m g H H' → H' m = some (.lst (ms'.map V.str)) → H' g = some (.lst (gs'.map V.str)) → MoreOf ms ms' → MoreOf gs gs' → RowAt H' r rw → Toward o rw → Q (.ref r) H'
theorem atI_strs {l : List Str} {i : Int} (h0 : 0 ≤ i) (h1 : i < (l.length : Int)) : ∃ x, x ∈ l ∧ atI (l.map V.str) i = some (.str x) := atI_menu l h0 h1
theorem mod_lt {i : Int} {n : Nat} (h : 0 < n) : 0 ≤ i % (n : Int) ∧ i % (n : Int) < (n : Int) := ⟨Int.emod_nonneg _ (by omega), Int.emod_lt_of_pos _ (by omega)⟩
theorem log_small {n : Nat} (h : n < 100) : ((n : Int)).natAbs.log2 < 1920 := log_ok (by omega) (by omega)
theorem ok_row (T : Txt K mg) : L2.Cl P w K mg base 1 "_law_row" ["_law_kind", "_law_mix", "_law_other_here", "_law_mine", "_law_given", "_law_others"] spRow := by
  refine Cl.of T.d_law_row sc_law_row (fun vs H Q E h => ?_) (fun _ _ _ _ _ _ us hl => match us, hl with | [_, _, _, _, _, _], _ => rfl) (fun f cdv A outer s H vs Q E hr h => ?_)
  · obtain ⟨kd, mx, o, m, g, u, ms, gs, us, rfl, _⟩ := h
    rfl
  · obtain ⟨kd, mx, o, m, g, u, ms, gs, us, rfl, hx0, hx1, hm, hg, hu', hmg, hmu, hml, hgl, hul, hmo, hgo, huo, q⟩ := h
    have hu0 := Nat.lt_of_succ_lt (hu_of hr)
    refine ⟨_, (pss_cons (ps_set (i := 6) sc_law_row.nd rfl (Or.inl rfl) (pe_op op_add_str pe_str (pe_callTy call_str_int (by rfl) T.n_str boot_str (pa_cons (pe_callB call_len_seq (by rfl) T.n_len PySem.boot_len (pa_cons (pv 3) pa_nil)) pa_nil))))
      (pss_cons (ps_if (PW.pt (pw_and (pt_cmpR op_lt (pv 0) pe_int (nomark _)) (pw_and1 (pt_cmp (pc_notN (pv 2))))))
        (pss_cons (ps_if (PW.pt (pw_or (pt_cmpR (op_eqL_nil hu0) (pv 5) (pe_lst pa_nil) (nomark _)) (pw_or1 (pt_cmpR op_eq (pe_op op_mod (pv 1) pe_int) pe_int (nomark _)))))
          (pss_one (ps_ret (pe_tup (pa_cons pe_str (pa_cons (pv 2) (pa_cons (pe_tup pa_nil) pa_nil)))))) pss_nil)
        (pss_cons (ps_expr (pe_bm PySem.F.plainAttrs_list PySem.F.slot_list_append PySem.F.type_list_append mt_append (pv 3) (pa_cons (pv 6) pa_nil)))
        (pss_one (ps_ret (pe_tup (pa_cons pe_str (pa_cons (pv 2) (pa_cons (pe_tup (pa_cons (pe_tup (pa_cons (pe_ix ix_list (pv 5) (pe_op op_mod (pv 1) (pe_callB call_len_seq (by rfl) T.n_len PySem.boot_len (pa_cons (pv 5) pa_nil))) (fun _ _ => rfl)) (pa_cons (pv 6) pa_nil))) pa_nil)) pa_nil)))))))) pss_nil)
      (pss_cons (ps_if (PW.pt (pw_and (pt_cmpR op_eq (pv 0) pe_int (nomark _)) (pw_and1 (pt_cmp (pc_notN (pv 2))))))
        (pss_cons (ps_if (PW.pt (pw_or (pt_cmpR (op_eqL_nil hu0) (pv 3) (pe_lst pa_nil) (nomark _)) (pw_or1 (pt_cmpR op_eq (pe_op op_mod (pv 1) pe_int) pe_int (nomark _)))))
          (pss_one (ps_ret (pe_tup (pa_cons pe_str (pa_cons (pv 2) (pa_cons pe_non pa_nil)))))) pss_nil)
        (pss_one (ps_ret (pe_tup (pa_cons pe_str (pa_cons (pv 2) (pa_cons (pe_ix ix_list (pv 3) (pe_op op_mod (pv 1) (pe_callB call_len_seq (by rfl) T.n_len PySem.boot_len (pa_cons (pv 3) pa_nil))) (fun _ _ => rfl)) pa_nil))))))) pss_nil)
      (pss_cons (ps_if (PW.pt (pw_and (pt_cmpR op_eq (pv 0) pe_int (nomark _)) (pw_and1 (pt_cmpR (op_neL_nil hu0) (pv 3) (pe_lst pa_nil) (nomark _)))))
        (pss_cons (ps_expr (pe_bm PySem.F.plainAttrs_list PySem.F.slot_list_append PySem.F.type_list_append mt_append (pv 4) (pa_cons (pe_op op_add_str pe_str (pe_callTy call_str_int (by rfl) T.n_str boot_str (pa_cons (pe_callB call_len_seq (by rfl) T.n_len PySem.boot_len (pa_cons (pv 4) pa_nil)) pa_nil))) pa_nil)))
        (pss_one (ps_ret (pe_tup (pa_cons pe_str (pa_cons (pe_ix ix_list (pv 3) (pe_op op_mod (pv 1) (pe_callB call_len_seq (by rfl) T.n_len PySem.boot_len (pa_cons (pv 3) pa_nil))) (fun _ _ => rfl)) (pa_cons (pe_ix ix_list (pv 4) (pe_un un_neg pe_int) (fun _ _ => rfl)) pa_nil))))))) pss_nil)
      (pss_cons (ps_if (PW.pt (pw_and (pt_cmpR op_eq (pv 0) pe_int (nomark _)) (pw_and1 (pt_cmpR (op_neL_nil hu0) (pv 3) (pe_lst pa_nil) (nomark _)))))
        (pss_one (ps_ret (pe_tup (pa_cons pe_str (pa_cons (pe_tup (pa_cons (pe_tup (pa_cons pe_int (pa_cons (pe_ix ix_list (pv 3) (pe_op op_mod (pv 1) (pe_callB call_len_seq (by rfl) T.n_len PySem.boot_len (pa_cons (pv 3) pa_nil))) (fun _ _ => rfl)) pa_nil))) (pa_cons (pe_tup (pa_cons (pe_un un_neg pe_int) (pa_cons (pv 1) pa_nil))) pa_nil))) pa_nil))))) pss_nil)
      (pss_cons (ps_if (pt_cmpR op_eq (pv 0) pe_int (nomark _))
        (pss_one (ps_ret (pe_tup (pa_cons pe_str (pa_cons (pe_tup (pa_cons (pe_tup (pa_cons pe_int (pa_cons (pv 1) pa_nil))) pa_nil)) (pa_cons pe_non pa_nil)))))) pss_nil)
      (pss_cons (ps_expr (pe_bm PySem.F.plainAttrs_list PySem.F.slot_list_append PySem.F.type_list_append mt_append (pv 3) (pa_cons (pv 6) pa_nil)))
      (pss_cons (ps_if (pt_cmpR op_eq (pv 0) pe_int (nomark _))
        (pss_one (ps_ret (pe_tup (pa_cons pe_str (pa_cons (pv 6) pa_nil))))) pss_nil)
      (pss_one (ps_ret (pe_tup (pa_cons pe_str (pa_cons (pv 6) (pa_cons (pe_tup (pa_cons (pe_tup (pa_cons pe_int (pa_cons (pv 1) pa_nil))) pa_nil)) pa_nil)))))))))))))), ?_⟩
    refine ⟨_, rfl, m, _, rfl, .inl (SqL.of hm), _, rfl, (by rw [List.length_map]; exact log_small hml), _, _, rfl, rfl, (by rw [List.length_map]; have := vN_len _ hml; show 1 + _ ≤ sizeLine; exact Nat.le_of_lt (small1000 (by omega))), ?_⟩
    rw [List.length_map]
    show gName 6 (V.str (vN "v" ms.length)) _ _ _
    have hown : NameOk (vN "v" ms.length) := v_ok _ hml
    generalize vN "v" ms.length = ow at hown ⊢
    refine g_if_p (a := decide (kd < 3) && !decide (optV o = V.non)) ?_ ?_
    · exact tand_pure (fun Q' h => ⟨_, rfl, _, _, rfl, rfl, _, rfl, h⟩) (fun Q' h => ⟨_, rfl, _, rfl, h⟩)
    refine ite2 (fun hc => ?_) (fun hc1 => ?_)
    · obtain ⟨p, rfl⟩ : ∃ p, o = some p := by
        cases o with
        | some p => exact ⟨p, rfl⟩
        | none => simp [optV] at hc
      refine if_or_new (a := (us.map V.str).isEmpty) (b := decide (V.int (mx % 3) = V.int 0)) (fun Q' h => ⟨_, rfl, (by show 0 ≤ sizeLine; decide), fun z gz => ⟨u, z, _, rfl, rfl, SqL.of (upd_keep hu' gz), SqL.of upd_same, _, rfl, h z gz⟩⟩) (fun H1 _ Q' h => ⟨_, rfl, _, _, rfl, rfl, (by show (0 : Int) < 3; decide), rfl, _, rfl, h⟩) (fun _ H1 s1 => ?_) (fun hb H1 s1 => ?_)
      · refine ⟨_, rfl, (by show 0 ≤ sizeLine; decide), fun e ge => (⟨by show 3 ≤ sizeLine; decide, fun r gr => ?_⟩ : _ ∧ _)⟩
        have s2 := (s1.new (o := .tup []) ge).new (o := .tup [.str "bring", .str p, .ref e]) gr
        exact q r (.bring p []) ms gs _ (.of s2) (s2 _ _ hm) (s2 _ _ hg) (.inl rfl) (.inl rfl) ⟨e, upd_same, ⟨[], upd_keep upd_same gr, .nil⟩, by simp⟩ rfl
      · have hne : 0 < us.length := by
          rw [Bool.or_eq_false_iff] at hb
          cases us with
          | nil => exact absurd hb.1 (by simp)
          | cons a b => simp
        refine to_n ?_
        have hm1 := s1 _ _ hm
        refine ⟨_, rfl, .inl ⟨rfl, _, SqL.of hm1⟩, _, rfl, m, _, _, rfl, rfl, hm1, small1000 (by rw [List.length_map]; omega), ?_⟩
        have b2 : But2 m g H (upd H1 m (.lst (ms.map V.str ++ [.str ow]))) := (But2.of s1).put1
        have hm2 : upd H1 m (.lst (ms.map V.str ++ [.str ow])) m = some (.lst ((ms ++ [ow]).map V.str)) := by rw [upd_same, List.map_append]; rfl
        have hg2 : upd H1 m (.lst (ms.map V.str ++ [.str ow])) g = some (.lst (gs.map V.str)) := by rw [upd_ne hmg.symm]; exact s1 _ _ hg
        have hu2 : upd H1 m (.lst (ms.map V.str ++ [.str ow])) u = some (.lst (us.map V.str)) := by rw [upd_ne hmu.symm]; exact s1 _ _ hu'
        generalize upd H1 m (.lst (ms.map V.str ++ [.str ow])) = H2 at b2 hm2 hg2 hu2 ⊢
        obtain ⟨y, hy, ey⟩ := atI_strs (l := us) (mod_lt (i := mx) hne).1 (mod_lt hne).2
        refine ⟨_, rfl, _, rfl, _, rfl, _, rfl, u, _, rfl, .inl (SqL.of hu2), _, _, rfl, rfl, (by rw [List.length_map]; show (0 : Int) < (us.length : Int); omega), u, _, _, _, rfl, rfl, SqL.of hu2, (by rw [List.length_map]; exact ey), _, rfl, (by show 2 ≤ sizeLine; decide), fun t2 gt2 => (⟨by show 1 ≤ sizeLine; decide, fun t1 gt1 => (⟨by show 3 ≤ sizeLine; decide, fun r gr => ?_⟩ : _ ∧ _)⟩ : _ ∧ _)⟩
        have s3 : Same H2 (upd H2 t2 (.tup [.str y, .str ow])) := (Same.refl H2).new gt2
        have s4 := s3.new (o := .tup [.ref t2]) gt1
        have s5 := s4.new (o := .tup [.str "bring", .str p, .ref t1]) gr
        refine q r (.bring p [(y, ow)]) (ms ++ [ow]) gs _ (b2.same s5) (s5 _ _ hm2) (s5 _ _ hg2) (.inr ⟨ow, hown, rfl⟩) (.inl rfl) ⟨t1, upd_same, ⟨[.ref t2], upd_keep upd_same gr, .cons ⟨t2, rfl, upd_keep (upd_keep upd_same gt1) gr, huo y hy, hown⟩ .nil⟩, by simp⟩ rfl
    refine to_n ?_
    refine s_if_p (a := decide (V.int kd = V.int 3) && !decide (optV o = V.non)) ?_ ?_
    · exact tand_pure (fun Q' h => ⟨_, rfl, rfl, _, rfl, h⟩) (fun Q' h => ⟨_, rfl, _, rfl, h⟩)
    refine ite2 (fun hc => ?_) (fun hc2 => ?_)
    · obtain ⟨p, rfl⟩ : ∃ p, o = some p := by
        cases o with
        | some p => exact ⟨p, rfl⟩
        | none => simp [optV] at hc
      refine if_or_new (a := (ms.map V.str).isEmpty) (b := decide (V.int (mx % 2) = V.int 0)) (fun Q' h => ⟨_, rfl, (by show 0 ≤ sizeLine; decide), fun z gz => ⟨m, z, _, rfl, rfl, SqL.of (upd_keep hm gz), SqL.of upd_same, _, rfl, h z gz⟩⟩) (fun H1 _ Q' h => ⟨_, rfl, _, _, rfl, rfl, (by show (0 : Int) < 2; decide), rfl, _, rfl, h⟩) (fun _ H1 s1 => ?_) (fun hb H1 s1 => ?_)
      · refine ⟨_, rfl, (by show 3 ≤ sizeLine; decide), fun r gr => ?_⟩
        have s2 := s1.new (o := .tup [.str "ask", .str p, .non]) gr
        exact q r (.ask p none) ms gs _ (.of s2) (s2 _ _ hm) (s2 _ _ hg) (.inl rfl) (.inl rfl) upd_same rfl
      · have hne : 0 < ms.length := by
          rw [Bool.or_eq_false_iff] at hb
          cases ms with
          | nil => exact absurd hb.1 (by simp)
          | cons a b => simp
        obtain ⟨y, hy, ey⟩ := atI_strs (l := ms) (mod_lt (i := mx) hne).1 (mod_lt hne).2
        have hm1 := s1 _ _ hm
        refine ⟨_, rfl, _, rfl, _, rfl, _, rfl, m, _, rfl, .inl (SqL.of hm1), _, _, rfl, rfl, (by rw [List.length_map]; show (0 : Int) < (ms.length : Int); omega), m, _, _, _, rfl, rfl, SqL.of hm1, (by rw [List.length_map]; exact ey), (by show 3 ≤ sizeLine; decide), fun r gr => ?_⟩
        have s2 := s1.new (o := .tup [.str "ask", .str p, .str y]) gr
        exact q r (.ask p (some y)) ms gs _ (.of s2) (s2 _ _ hm) (s2 _ _ hg) (.inl rfl) (.inl rfl) upd_same rfl
    refine to_n ?_
    refine if_and_new (a := decide (V.int kd = V.int 4)) (b := !(ms.map V.str).isEmpty) (fun Q' h => ⟨_, rfl, rfl, _, rfl, h⟩) (fun Q' h => ⟨_, rfl, (by show 0 ≤ sizeLine; decide), fun z gz => ⟨m, z, _, rfl, rfl, SqL.of (upd_keep hm gz), SqL.of upd_same, _, rfl, h z gz⟩⟩) (fun hb H1 s1 => ?_) (fun _ H1 s1 => ?_)
    · have hne : 0 < ms.length := by
        rw [Bool.and_eq_true] at hb
        cases ms with
        | nil => exact absurd hb.2 (by simp)
        | cons a b => simp
      have hm1 := s1 _ _ hm
      have hg1 := s1 _ _ hg
      refine ⟨_, rfl, .inl ⟨rfl, _, SqL.of hg1⟩, _, rfl, g, _, rfl, .inl (SqL.of hg1), _, rfl, (by rw [List.length_map]; exact log_small hgl), _, _, rfl, rfl, (by rw [List.length_map]; have := vN_len _ hgl; show 1 + _ ≤ sizeLine; exact Nat.le_of_lt (small1000 (by omega))), g, _, _, rfl, rfl, hg1, small1000 (by rw [List.length_map]; omega), ?_⟩
      rw [List.length_map]
      have hgn : NameOk (vN "g" gs.length) := g_ok _ hgl
      change tNext _ _ (upd H1 g (.lst (gs.map V.str ++ [.str (vN "g" gs.length)])))
      generalize vN "g" gs.length = gn at hgn ⊢
      have b2 : But2 m g H (upd H1 g (.lst (gs.map V.str ++ [.str gn]))) := (But2.of s1).put2
      have hg2 : upd H1 g (.lst (gs.map V.str ++ [.str gn])) g = some (.lst (gs.map V.str ++ [.str gn])) := upd_same
      have hm2 : upd H1 g (.lst (gs.map V.str ++ [.str gn])) m = some (.lst (ms.map V.str)) := by rw [upd_ne hmg]; exact hm1
      generalize upd H1 g (.lst (gs.map V.str ++ [.str gn])) = H2 at b2 hm2 hg2 ⊢
      obtain ⟨y, hy, ey⟩ := atI_strs (l := ms) (mod_lt (i := mx) hne).1 (mod_lt hne).2
      refine ⟨_, rfl, _, rfl, _, rfl, m, _, rfl, .inl (SqL.of hm2), _, _, rfl, rfl, (by rw [List.length_map]; show (0 : Int) < (ms.length : Int); omega), m, _, _, _, rfl, rfl, SqL.of hm2, (by rw [List.length_map]; exact ey), _, rfl, _, rfl, g, _, _, _, rfl, rfl, SqL.of hg2, atI_last _ _, (by show 3 ≤ sizeLine; decide), fun r gr => ?_⟩
      have s3 : Same H2 (upd H2 r (.tup [.str "give", .str y, .str gn])) := (Same.refl H2).new gr
      exact q r (.give y gn) ms (gs ++ [gn]) _ (b2.same s3) (s3 _ _ hm2) (by rw [List.map_append]; exact s3 _ _ hg2) (.inl rfl) (.inr ⟨gn, hgn, rfl⟩) upd_same trivial
    refine to_n ?_
    have hm1 := s1 _ _ hm
    refine if_and_new (a := decide (V.int kd = V.int 5)) (b := !(ms.map V.str).isEmpty) (fun Q' h => ⟨_, rfl, rfl, _, rfl, h⟩) (fun Q' h => ⟨_, rfl, (by show 0 ≤ sizeLine; decide), fun z gz => ⟨m, z, _, rfl, rfl, SqL.of (upd_keep hm1 gz), SqL.of upd_same, _, rfl, h z gz⟩⟩) (fun hb H2 s2 => ?_) (fun _ H2 s2 => ?_)
    · have hne : 0 < ms.length := by
        rw [Bool.and_eq_true] at hb
        cases ms with
        | nil => exact absurd hb.2 (by simp)
        | cons a b => simp
      have hm2 := s2 _ _ hm1
      obtain ⟨y, hy, ey⟩ := atI_strs (l := ms) (mod_lt (i := mx) hne).1 (mod_lt hne).2
      refine ⟨_, rfl, _, rfl, _, rfl, m, _, rfl, .inl (SqL.of hm2), _, _, rfl, rfl, (by rw [List.length_map]; show (0 : Int) < (ms.length : Int); omega), m, _, _, _, rfl, rfl, SqL.of hm2, (by rw [List.length_map]; exact ey), (by show 2 ≤ sizeLine; decide), fun t1 gt1 => ?_⟩
      refine ⟨_, rfl, _, rfl, (by show 2 ≤ sizeLine; decide), fun t2 gt2 => (⟨by show 2 ≤ sizeLine; decide, fun t gt => (⟨by show 2 ≤ sizeLine; decide, fun r gr => ?_⟩ : _ ∧ _)⟩ : _ ∧ _)⟩
      have s3 := (s1.trans s2).new (o := .tup [.int 1, .str y]) gt1
      have s4 := s3.new (o := .tup [.int (-1), .int mx]) gt2
      have s5 := s4.new (o := .tup [.ref t1, .ref t2]) gt
      have s6 := s5.new (o := .tup [.str "need", .ref t]) gr
      exact q r (.need [(1, .nam y), (-1, .num mx)]) ms gs _ (.of s6) (s6 _ _ hm) (s6 _ _ hg) (.inl rfl) (.inl rfl) ⟨t, upd_same, ⟨_, upd_keep upd_same gr, .cons ⟨t1, rfl, upd_keep (upd_keep (upd_keep upd_same gt2) gt) gr, hmo y hy⟩ (.cons ⟨t2, rfl, upd_keep (upd_keep upd_same gt) gr, ⟨hx0, by omega⟩⟩ .nil)⟩, by simp, by simp⟩ trivial
    refine to_n ?_
    have s12 := s1.trans s2
    refine s_if_p (a := decide (V.int kd = V.int 6)) (fun Q' h => ⟨_, rfl, rfl, _, rfl, h⟩) ?_
    refine ite2 (fun hc => ?_) (fun hc => ?_)
    · refine ⟨_, rfl, (by show 2 ≤ sizeLine; decide), fun t1 gt1 => (⟨by show 1 ≤ sizeLine; decide, fun t gt => (⟨by show 3 ≤ sizeLine; decide, fun r gr => ?_⟩ : _ ∧ _)⟩ : _ ∧ _)⟩
      have s3 := s12.new (o := .tup [.int 1, .int mx]) gt1
      have s4 := s3.new (o := .tup [.ref t1]) gt
      have s5 := s4.new (o := .tup [.str "say", .ref t, .non]) gr
      exact q r (.say [(1, .num mx)] none) ms gs _ (.of s5) (s5 _ _ hm) (s5 _ _ hg) (.inl rfl) (.inl rfl) ⟨t, upd_same, ⟨_, upd_keep upd_same gr, .cons ⟨t1, rfl, upd_keep (upd_keep upd_same gt) gr, ⟨hx0, by omega⟩⟩ .nil⟩, by simp, by simp⟩ trivial
    refine to_n ?_
    have hm3 := s12 _ _ hm
    refine ⟨_, rfl, .inl ⟨rfl, _, SqL.of hm3⟩, _, rfl, m, _, _, rfl, rfl, hm3, small1000 (by rw [List.length_map]; omega), ?_⟩
    have b2 : But2 m g H (upd H2 m (.lst (ms.map V.str ++ [.str ow]))) := (But2.of s12).put1
    have hm4 : upd H2 m (.lst (ms.map V.str ++ [.str ow])) m = some (.lst ((ms ++ [ow]).map V.str)) := by rw [upd_same, List.map_append]; rfl
    have hg4 : upd H2 m (.lst (ms.map V.str ++ [.str ow])) g = some (.lst (gs.map V.str)) := by rw [upd_ne hmg.symm]; exact s12 _ _ hg
    generalize upd H2 m (.lst (ms.map V.str ++ [.str ow])) = H3 at b2 hm4 hg4 ⊢
    refine ⟨_, rfl, rfl, _, rfl, ?_⟩
    refine ite2 (fun hc => ?_) (fun hc => ?_)
    · refine ⟨_, rfl, (by show 2 ≤ sizeLine; decide), fun r gr => ?_⟩
      have s3 : Same H3 (upd H3 r (.tup [.str "take", .str ow])) := (Same.refl H3).new gr
      exact q r (.take ow) (ms ++ [ow]) gs _ (b2.same s3) (s3 _ _ hm4) (s3 _ _ hg4) (.inr ⟨ow, hown, rfl⟩) (.inl rfl) upd_same trivial
    · refine ⟨_, rfl, _, rfl, (by show 2 ≤ sizeLine; decide), fun t1 gt1 => (⟨by show 1 ≤ sizeLine; decide, fun t gt => (⟨by show 3 ≤ sizeLine; decide, fun r gr => ?_⟩ : _ ∧ _)⟩ : _ ∧ _)⟩
      have s3 : Same H3 (upd H3 t1 (.tup [.int 1, .int mx])) := (Same.refl H3).new gt1
      have s4 := s3.new (o := .tup [.ref t1]) gt
      have s5 := s4.new (o := .tup [.str "set", .str ow, .ref t]) gr
      exact q r (.set ow [(1, .num mx)]) (ms ++ [ow]) gs _ (b2.same s5) (s5 _ _ hm4) (s5 _ _ hg4) (.inr ⟨ow, hown, rfl⟩) (.inl rfl) ⟨t, upd_same, ⟨_, upd_keep upd_same gr, .cons ⟨t1, rfl, upd_keep (upd_keep upd_same gt) gr, ⟨hx0, by omega⟩⟩ .nil⟩, by simp, by simp⟩ trivial
theorem call_tuple_ofF {X : Cx} : CallR X (.type "tuple") (fun xs H Q => ∃ p ys, xs = [.ref p] ∧ SqL X.K H p ys ∧ ∀ l o, H l = none → o.dict = none → Q (.ref l) (upd H l (.frz o (.tup ys)))) := by
  intro pins s σ H xs us Q I r h
  obtain ⟨p, ys, rfl, hq, q⟩ := h
  obtain ⟨u, rfl, rx⟩ := vals1 r
  cases rx
  obtain ⟨its, r', pl, hz⟩ := I.list hq
  have hlen := r'.length
  refine call_tuple_list pl.isList (fun h' kp => ?_) (by simp only [List.size_toArray] <;> omega)
  have I1 : Inv X pins σ H { s with heap := h' } := I.kept (t' := s.toks) kp
  have I2 : Inv X pins σ (upd H h'.objs.size (.frz { cls := .type "tuple", data := .seq its.toArray } (.tup ys))) { s with heap := h'.push { cls := .type "tuple", data := .seq its.toArray } } :=
    I1.laid (t' := s.toks) (fun b o e => Heap.get?_push_of_some _ e) (Nat.le_refl _) ⟨Heap.get?_push_size _ rfl, hz, its, r', ⟨_, Heap.get?_push_size _ rfl, rfl, _, rfl⟩⟩
  exact ⟨.ref h'.objs.size, _, I2, rfl, q _ _ (I1.hok.fresh (Nat.le_refl _)) rfl⟩
structure PsFit (ps : List Pt) : Prop where
  nd : (ps.map (·.1)).Nodup
  hi : ps.length ≤ 24
  rows : ∀ pt ∈ ps, pt.2.length ≤ 40
theorem comp_new {K : PySem.W.Frag} {a : Addr} {xs : List V} {Qh : Hp → Prop} {v : Option V} {H : Hp} {D : Addr} (hl : H a = some (.lst xs)) (hD : H D = none) (hx : xs.length ≤ 900)
    (q : ∀ (as : List Addr) (H' : Hp), Same H H' → H' D = some (.lst (as.map V.ref)) → as.length = xs.length → as.Nodup → (∀ b ∈ as, H b = none ∧ b ≠ D ∧ H' b = some (.lst [])) → Qh H') :
    ∃ W : Nat → Nat → L2.St → Hp → Prop, (∃ m, W 0 m [v] (upd H D (.lst []))) ∧ ∀ i m σ2 H2, W i m σ2 H2 →
      ((Itl K a).stop i H2 ∧ Qh H2) ∨ ((Itl K a).go i H2 ∧ ∃ N : L2.St → Hp → Prop, (∀ σ' H', N σ' H' → ∃ m', m' < m ∧ W (i + 1) m' σ' H') ∧ ∀ x H3, (Itl K a).yld i H2 x H3 → gName 0 x σ2 H3 fun σ4 H4 => tNoTest σ4 H4 fun b H5 =>
        if b = true then tLst tNil σ4 H5 fun y H6 => ∃ ys, H6 D = some (.lst ys) ∧ ys.length < sizeLine ∧ N σ4 (upd H6 D (.lst (ys ++ [y]))) else N σ4 H5) := by
  refine comp_by xs.length (fun i σ H2 => ∃ (v0 : Option V) (as : List Addr), σ = [v0] ∧ Same H H2 ∧ H2 D = some (.lst (as.map V.ref)) ∧ as.length = i ∧ as.Nodup ∧ ∀ b ∈ as, H b = none ∧ b ≠ D ∧ H2 b = some (.lst [])) ⟨v, [], rfl, (Same.refl H).new hD, upd_same, rfl, List.nodup_nil, by simp⟩ ?_ ?_
  · rintro i σ H2 hi ⟨v0, as, rfl, s2, hD2, hlen, hnd, hall⟩
    refine ⟨⟨xs, xs[i], SqL.of (s2 _ _ hl), by simp⟩, ?_⟩
    rintro x H3 ⟨rfl, _⟩
    refine ntG ?_
    refine ⟨(by show 0 ≤ sizeLine; decide), fun p gp => ?_⟩
    have hpD : p ≠ D := fun z => by rw [z, hD2] at gp; cases gp
    have hD3 : upd H3 p (.lst []) D = some (.lst (as.map V.ref)) := upd_keep hD2 gp
    refine ⟨_, hD3, small1000 (by rw [List.length_map]; omega), _, as ++ [p], rfl, (s2.new gp).put hD, ?_, by rw [List.length_append, hlen]; rfl, ?_, ?_⟩
    · rw [upd_same, List.map_append]; rfl
    · rw [List.nodup_append]
      refine ⟨hnd, by simp, fun b hb c hc e => ?_⟩
      rw [List.mem_singleton.mp hc] at e
      have := (hall b hb).2.2
      rw [e, gp] at this
      cases this
    · intro b hb
      rcases List.mem_append.mp hb with z | z
      · obtain ⟨h1, h2, h3⟩ := hall b z
        exact ⟨h1, h2, by rw [upd_ne h2]; exact upd_keep h3 gp⟩
      · rw [List.mem_singleton.mp z]
        exact ⟨s2.free gp, hpD, by rw [upd_ne hpD, upd_same]⟩
  · rintro σ H2 ⟨v0, as, rfl, s2, hD2, hlen, hnd, hall⟩
    exact ⟨⟨xs, SqL.of (s2 _ _ hl), Nat.le_refl _⟩, q as H2 s2 hD2 hlen hnd hall⟩
noncomputable def InN (ns : List Str) : Rw → Prop
  | .bring p _ => p ∈ ns
  | .ask p _ => p ∈ ns
  | _ => True
theorem Toward.inN {ns : List Str} {o : Option Str} {rw : Rw} (h : Toward o rw) (ho : ∀ p, o = some p → p ∈ ns) : InN ns rw := by
  cases rw with
  | bring p _ => exact ho p h
  | ask p _ => exact ho p h
  | _ => trivial
noncomputable def StrsIn (H : Hp) (j : Nat) (b : Addr) : Prop := ∃ ms : List Str, H b = some (.lst (ms.map V.str)) ∧ ms.length ≤ j ∧ ∀ x ∈ ms, NameOk x
structure Gr (ns : List Str) (H0 : Hp) (R M G : Addr) (ra ma ga : List Addr) (j : Nat) (H : Hp) : Prop where
  sm : Same H0 H
  hR : H R = some (.lst (ra.map V.ref))
  hM : H M = some (.lst (ma.map V.ref))
  hG : H G = some (.lst (ga.map V.ref))
  rw : ∀ b ∈ ra, ∃ vs rws, H b = some (.lst vs) ∧ RowsAt H vs rws ∧ rws.length ≤ 40 ∧ ∀ r ∈ rws, InN ns r
  mn : ∀ b ∈ ma, StrsIn H j b
  gv : ∀ b ∈ ga, StrsIn H j b
structure Ap (H0 : Hp) (R M G : Addr) (ra ma ga : List Addr) : Prop where
  fr : ∀ b, b ∈ ra ∨ b ∈ ma ∨ b ∈ ga → H0 b = none ∧ b ≠ R ∧ b ≠ M ∧ b ≠ G
  rm : ∀ b ∈ ra, b ∉ ma ∧ b ∉ ga
  mg : ∀ b ∈ ma, b ∉ ga
theorem StrsIn.more {H H' : Hp} {j : Nat} {b : Addr} {ms ms' : List Str} (h : H' b = some (.lst (ms'.map V.str))) (hl : ms.length ≤ j) (ho : ∀ x ∈ ms, NameOk x) (m : MoreOf ms ms') : StrsIn H' (j + 1) b := by
  rcases m with rfl | ⟨x, hx, rfl⟩
  · exact ⟨_, h, by omega, ho⟩
  · refine ⟨_, h, by rw [List.length_append]; simp; omega, fun y hy => ?_⟩
    rcases List.mem_append.mp hy with z | z
    · exact ho y z
    · rw [List.mem_singleton.mp z]; exact hx
theorem Gr.up {ns : List Str} {H0 : Hp} {R M G : Addr} {ra ma ga : List Addr} {j : Nat} {H : Hp} (g : Gr ns H0 R M G ra ma ga j H) : Gr ns H0 R M G ra ma ga (j + 1) H := ⟨g.sm, g.hR, g.hM, g.hG, g.rw, fun b hb => by
  obtain ⟨ms, h1, h2, h3⟩ := g.mn b hb
  exact ⟨ms, h1, by omega, h3⟩, fun b hb => by
  obtain ⟨ms, h1, h2, h3⟩ := g.gv b hb
  exact ⟨ms, h1, by omega, h3⟩⟩
theorem Gr.row {ns : List Str} {H0 : Hp} {R M G : Addr} {ra ma ga : List Addr} {j : Nat} {H H' : Hp} (g : Gr ns H0 R M G ra ma ga j H) (ap : Ap H0 R M G ra ma ga) {r m v x : Addr} {ms ms' gs gs' : List Str} {vs : List V} {rws : List Rw} {rw : Rw}
    (hr : r ∈ ra) (hm : m ∈ ma) (hv : v ∈ ga) (b2 : But2 m v H H') (hrH : H r = some (.lst vs)) (hrows : RowsAt H vs rws) (h40 : rws.length < 40) (hin : ∀ r ∈ rws, InN ns r)
    (hmH : H m = some (.lst (ms.map V.str))) (hms : ms.length ≤ j) (hmo : ∀ x ∈ ms, NameOk x) (hvH : H v = some (.lst (gs.map V.str))) (hgs : gs.length ≤ j) (hgo : ∀ x ∈ gs, NameOk x)
    (hm' : H' m = some (.lst (ms'.map V.str))) (hv' : H' v = some (.lst (gs'.map V.str))) (mm : MoreOf ms ms') (mg : MoreOf gs gs') (hx : RowAt H' x rw) (hxin : InN ns rw) :
    H' r = some (.lst vs) ∧ Gr ns H0 R M G ra ma ga (j + 1) (upd H' r (.lst (vs ++ [.ref x]))) := by
  have r1 : r ≠ m := fun z => (ap.rm r hr).1 (z ▸ hm)
  have r2 : r ≠ v := fun z => (ap.rm r hr).2 (z ▸ hv)
  have hr' : H' r = some (.lst vs) := b2 _ _ r1 r2 hrH
  have keep : ∀ c o, c ≠ m → c ≠ v → c ≠ r → H c = some o → upd H' r (.lst (vs ++ [.ref x])) c = some o := fun c o h1 h2 h3 h => by
    rw [upd_ne h3]
    exact b2 c o h1 h2 h
  have T1 : Tups H H' := fun c zs h => b2 c _ (fun z => by rw [z, hmH] at h; cases h) (fun z => by rw [z, hvH] at h; cases h) h
  have T2 : Tups H' (upd H' r (.lst (vs ++ [.ref x]))) := Tups.lst hr'
  have fr := fun c => (ap.fr c)
  refine ⟨hr', ⟨fun c o h => ?_, ?_, ?_, ?_, ?_, ?_, ?_⟩⟩
  · exact keep c o (fun z => by rw [z, (fr m (.inr (.inl hm))).1] at h; cases h) (fun z => by rw [z, (fr v (.inr (.inr hv))).1] at h; cases h) (fun z => by rw [z, (fr r (.inl hr)).1] at h; cases h) (g.sm c o h)
  · exact keep _ _ (fr m (.inr (.inl hm))).2.1.symm (fr v (.inr (.inr hv))).2.1.symm (fr r (.inl hr)).2.1.symm g.hR
  · exact keep _ _ (fr m (.inr (.inl hm))).2.2.1.symm (fr v (.inr (.inr hv))).2.2.1.symm (fr r (.inl hr)).2.2.1.symm g.hM
  · exact keep _ _ (fr m (.inr (.inl hm))).2.2.2.symm (fr v (.inr (.inr hv))).2.2.2.symm (fr r (.inl hr)).2.2.2.symm g.hG
  · intro b hb
    by_cases e : b = r
    · subst e
      refine ⟨_, rws ++ [rw], upd_same, Paired.snoc ((hrows.mono T1).mono T2) ⟨x, rfl, hx.mono T2⟩, by rw [List.length_append]; simp; omega, fun r hr => ?_⟩
      rcases List.mem_append.mp hr with z | z
      · exact hin r z
      · rw [List.mem_singleton.mp z]; exact hxin
    · obtain ⟨vs1, rws1, h1, h2, h3, h4⟩ := g.rw b hb
      exact ⟨vs1, rws1, keep _ _ (fun z => (ap.rm b hb).1 (z ▸ hm)) (fun z => (ap.rm b hb).2 (z ▸ hv)) e h1, (h2.mono T1).mono T2, h3, h4⟩
  · intro b hb
    have hbr : b ≠ r := fun z => (ap.rm r hr).1 (z ▸ hb)
    by_cases e : b = m
    · subst e
      exact StrsIn.more (H := H) (by rw [upd_ne hbr]; exact hm') hms hmo mm
    · obtain ⟨ms1, h1, h2, h3⟩ := g.mn b hb
      exact ⟨ms1, keep _ _ e (fun z => ap.mg b hb (z ▸ hv)) hbr h1, by omega, h3⟩
  · intro b hb
    have hbr : b ≠ r := fun z => (ap.rm r hr).2 (z ▸ hb)
    by_cases e : b = v
    · subst e
      exact StrsIn.more (H := H) (by rw [upd_ne hbr]; exact hv') hgs hgo mg
    · obtain ⟨ms1, h1, h2, h3⟩ := g.gv b hb
      exact ⟨ms1, keep _ _ (fun z => ap.mg m hm (z ▸ hb)) e hbr h1, by omega, h3⟩
theorem at_ref {l : List Addr} {i : Int} {n : Nat} (hn : l.length = n) (h0 : 0 ≤ i) (h1 : i < (n : Int)) : ∃ b ∈ l, atI (l.map V.ref) i = some (.ref b) := by
  obtain ⟨v, hv, e⟩ := atI_mem (l.map V.ref) h0 (by rw [List.length_map, hn]; exact h1)
  obtain ⟨b, hb, rfl⟩ := List.mem_map.mp hv
  exact ⟨b, hb, e⟩
noncomputable def spParts (K : PySem.W.Frag) : Sp := fun vs H Q _ => ∃ (a : Addr) (sc : List Int) (f0 d : Int) (nl : Addr) (ns : List Str), vs = [.ref a, .int f0, .ref nl, .int d] ∧ SqL K H a (sc.map V.int) ∧ sc.length ≤ 63 ∧ 0 ≤ f0 ∧ f0 ≤ 10 ∧ H nl = some (.lst (ns.map V.str)) ∧ 1 ≤ ns.length ∧ ns.length ≤ 24 ∧ ns.Nodup ∧
  ∀ (x : Addr) (ps : List Pt) (H' : Hp), Same H H' → PartsF H' x ps → ps.map (·.1) = ns → PsFit ps → (∀ pt ∈ ps, ∀ r ∈ pt.2, InN ns r) → Q (.ref x) H'
theorem ok_parts (T : Txt K mg) : L2.Cl P w K mg base 2 "_law_parts" ["_law_script", "_law_first", "_law_names_here", "_law_mode"] (spParts K) := by
  have C_law_mixed := ok_mixed (P := P) (w := w) (base := base) T
  have C_law_other := ok_other (P := P) (w := w) (base := base) T
  have C_law_row := ok_row (P := P) (w := w) (base := base) T
  refine Cl.of T.d_law_parts sc_law_parts (fun vs H Q E h => ?_) (fun _ _ _ _ _ _ us hl => by obtain ⟨a, b, c, d, rfl⟩ := len4 hl; rfl) (fun f cdv A outer s H vs Q E hr h => ?_)
  · obtain ⟨a, sc, f0, d, nl, ns, rfl, _⟩ := h
    rfl
  · obtain ⟨a, sc, f0, d, nl, ns, rfl, hS, hsc, hf0, hf1, hnl, hn1, hn2, hnd, q⟩ := h
    refine ⟨_, (pss_cons (ps_set (i := 4) sc_law_parts.nd rfl (Or.inl rfl) (pe_callB call_len_seq (by rfl) T.n_len PySem.boot_len (pa_cons (pv 2) pa_nil)))
      (pss_cons (ps_setC (j := 5) (M := ["_law_name"]) (ρ := [none]) (defScope s_law_parts) ["_law_script", "_law_first", "_law_names_here", "_law_mode", "_law_many", "_law_rows", "_law_mine", "_law_given", "_law_k", "_law_mix", "_law_here", "_law_at", "_law_other_here", "_law_kind"] ⟨rfl, by decide +kernel, by decide +kernel, by decide +kernel, rfl, by decide +kernel, by decide +kernel⟩ sc_law_parts.nd rfl (Or.inl rfl) (pi_list (pv 2)) (fun _ _ _ _ _ _ => (pg_name (i := 0) (show (["_law_name"] : List Str).Nodup by decide +kernel) rfl (Or.inl rfl))) (fun _ _ _ _ _ _ => pts_nil) (fun _ _ _ _ _ _ => (pe_lst pa_nil)))
      (pss_cons (ps_setC (j := 6) (M := ["_law_name"]) (ρ := [none]) (defScope s_law_parts) ["_law_script", "_law_first", "_law_names_here", "_law_mode", "_law_many", "_law_rows", "_law_mine", "_law_given", "_law_k", "_law_mix", "_law_here", "_law_at", "_law_other_here", "_law_kind"] ⟨rfl, by decide +kernel, by decide +kernel, by decide +kernel, rfl, by decide +kernel, by decide +kernel⟩ sc_law_parts.nd rfl (Or.inl rfl) (pi_list (pv 2)) (fun _ _ _ _ _ _ => (pg_name (i := 0) (show (["_law_name"] : List Str).Nodup by decide +kernel) rfl (Or.inl rfl))) (fun _ _ _ _ _ _ => pts_nil) (fun _ _ _ _ _ _ => (pe_lst pa_nil)))
      (pss_cons (ps_setC (j := 7) (M := ["_law_name"]) (ρ := [none]) (defScope s_law_parts) ["_law_script", "_law_first", "_law_names_here", "_law_mode", "_law_many", "_law_rows", "_law_mine", "_law_given", "_law_k", "_law_mix", "_law_here", "_law_at", "_law_other_here", "_law_kind"] ⟨rfl, by decide +kernel, by decide +kernel, by decide +kernel, rfl, by decide +kernel, by decide +kernel⟩ sc_law_parts.nd rfl (Or.inl rfl) (pi_list (pv 2)) (fun _ _ _ _ _ _ => (pg_name (i := 0) (show (["_law_name"] : List Str).Nodup by decide +kernel) rfl (Or.inl rfl))) (fun _ _ _ _ _ _ => pts_nil) (fun _ _ _ _ _ _ => (pe_lst pa_nil)))
      (pss_cons (ps_for PassesOwn.never rfl (pi_range2 (by rfl) T.n_range (pa_cons (pv 1) (pa_cons (pe_callB (call_min2 rfl) (by rfl) T.n_min boot_min (pa_cons (pe_callB call_len_seq (by rfl) T.n_len PySem.boot_len (pa_cons (pv 0) pa_nil)) (pa_cons (pe_op op_add (pv 1) pe_int) pa_nil))) pa_nil))) (pg_name (i := 8) sc_law_parts.nd rfl (Or.inl rfl))
        (pss_cons (ps_set (i := 9) sc_law_parts.nd rfl (Or.inl rfl) (pe_fn C_law_mixed hr (by rfl) (pa_cons (pe_ix ix_list (pv 0) (pv 8) (fun _ _ => rfl)) (pa_cons (pv 8) (pa_cons pe_int pa_nil)))))
        (pss_cons (ps_set (i := 10) sc_law_parts.nd rfl (Or.inl rfl) (pe_op op_mod (pe_ix ix_list (pv 0) (pv 8) (fun _ _ => rfl)) (pv 4)))
        (pss_cons (ps_set (i := 11) sc_law_parts.nd rfl (Or.inl rfl) (pe_fn C_law_other hr (by rfl) (pa_cons (pv 10) (pa_cons (pv 4) (pa_cons (pv 9) (pa_cons (pv 3) pa_nil))))))
        (pss_one (ps_if (pt_cmpR op_lt (pe_callB call_len_seq (by rfl) T.n_len PySem.boot_len (pa_cons (pe_ix ix_list (pv 5) (pv 10) (fun _ _ => rfl)) pa_nil)) pe_int (nomark _))
          (pss_cons (ps_set (i := 12) sc_law_parts.nd rfl (Or.inl rfl) (pe_ifExp (pt_cmpR op_ne (pv 11) (pv 10) (nomark _)) (pe_ix ix_list (pv 2) (pv 11) (fun _ _ => rfl)) pe_non))
          (pss_cons (ps_set (i := 13) sc_law_parts.nd rfl (Or.inl rfl) (pe_op op_mod (pe_op op_fdiv (pe_ix ix_list (pv 0) (pv 8) (fun _ _ => rfl)) (pv 4)) pe_int))
          (pss_one (ps_expr (pe_bm PySem.F.plainAttrs_list PySem.F.slot_list_append PySem.F.type_list_append mt_append (pe_ix ix_list (pv 5) (pv 10) (fun _ _ => rfl)) (pa_cons (pe_fn C_law_row hr (by rfl) (pa_cons (pv 13) (pa_cons (pe_op op_fdiv (pv 9) pe_int) (pa_cons (pv 12) (pa_cons (pe_ix ix_list (pv 6) (pv 10) (fun _ _ => rfl)) (pa_cons (pe_ix ix_list (pv 7) (pv 10) (fun _ _ => rfl)) (pa_cons (pe_ix ix_list (pv 7) (pv 11) (fun _ _ => rfl)) pa_nil))))))) pa_nil)))))) pss_nil))))))
      (pss_one (ps_ret (pe_callTy call_tuple_ofF (by rfl) T.n_tuple boot_tuple (pa_cons (pe_comp (M := ["_law_name", "_law_some_here"]) (ρ := [none, none]) (defScope s_law_parts) ["_law_script", "_law_first", "_law_names_here", "_law_mode", "_law_many", "_law_rows", "_law_mine", "_law_given", "_law_k", "_law_mix", "_law_here", "_law_at", "_law_other_here", "_law_kind"] ⟨rfl, by decide +kernel, by decide +kernel, by decide +kernel, rfl, by decide +kernel, by decide +kernel⟩ (pi_zipL (by rfl) T.n_zip (pa_cons (pv 2) (pa_cons (pv 5) pa_nil))) (fun _ _ _ _ _ _ => (pg_tupK (K := K) (n := 2) rfl rfl (pgs_cons (pg_name (i := 0) (show (["_law_name", "_law_some_here"] : List Str).Nodup by decide +kernel) rfl (Or.inl rfl)) (pgs_cons (pg_name (i := 1) (show (["_law_name", "_law_some_here"] : List Str).Nodup by decide +kernel) rfl (Or.inl rfl)) pgs_nil)))) (fun _ _ _ _ _ _ => pts_nil) (fun _ _ _ _ _ _ => (pe_tup (pa_cons (pv 0) (pa_cons (pe_callTy (call_tuple_ofK (K := K) rfl) (by rfl) T.n_tuple boot_tuple (pa_cons (pv 1) pa_nil)) pa_nil))))) pa_nil))))))))), ?_⟩
    have hxl : (ns.map V.str).length ≤ 900 := by rw [List.length_map]; omega
    refine ⟨_, rfl, nl, _, rfl, .inl (SqL.of hnl), ?_⟩
    refine ⟨_, rfl, nl, rfl, ⟨_, SqL.of hnl⟩, fun R gR => comp_new (K := K) hnl gR hxl fun ra H1 s1 hR1 hra _ hraA => ?_⟩
    have hnl1 := s1 _ _ hnl
    refine ⟨_, rfl, nl, rfl, ⟨_, SqL.of hnl1⟩, fun M gM => comp_new (K := K) hnl1 gM hxl fun ma H2 s2 hM2 hma _ hmaA => ?_⟩
    have hnl2 := s2 _ _ hnl1
    refine ⟨_, rfl, nl, rfl, ⟨_, SqL.of hnl2⟩, fun G gG => comp_new (K := K) hnl2 gG hxl fun ga H3 s3 hG3 hga _ hgaA => ?_⟩
    rw [List.length_map] at hra hma hga
    have ne_some : ∀ {H' : Hp} {b c : Addr} {o : HO}, H' b = none → H' c = some o → b ≠ c := fun h1 h2 z => by rw [z, h2] at h1; cases h1
    have ap : Ap H R M G ra ma ga := by
      have raH : ∀ b ∈ ra, H b = none ∧ H1 b = some (.lst []) ∧ b ≠ R := fun b hb => ⟨(hraA b hb).1, (hraA b hb).2.2, (hraA b hb).2.1⟩
      have maH : ∀ b ∈ ma, H b = none ∧ H1 b = none ∧ H2 b = some (.lst []) ∧ b ≠ M := fun b hb => ⟨s1.free (hmaA b hb).1, (hmaA b hb).1, (hmaA b hb).2.2, (hmaA b hb).2.1⟩
      have gaH : ∀ b ∈ ga, H b = none ∧ H1 b = none ∧ H2 b = none ∧ b ≠ G := fun b hb => ⟨s1.free (s2.free (hgaA b hb).1), s2.free (hgaA b hb).1, (hgaA b hb).1, (hgaA b hb).2.1⟩
      refine ⟨fun b hb => ?_, fun b hb => ⟨fun z => ?_, fun z => ?_⟩, fun b hb z => ?_⟩
      · rcases hb with z | z | z
        · obtain ⟨h1, h2, h3⟩ := raH b z
          exact ⟨h1, h3, (ne_some gM h2).symm, (ne_some gG (s2 _ _ h2)).symm⟩
        · obtain ⟨h1, h2, h3, h4⟩ := maH b z
          exact ⟨h1, ne_some h2 hR1, h4, (ne_some gG h3).symm⟩
        · obtain ⟨h1, h2, h3, h4⟩ := gaH b z
          exact ⟨h1, ne_some h2 hR1, ne_some h3 hM2, h4⟩
      · exact ne_some (maH b z).2.1 (raH b hb).2.1 rfl
      · exact ne_some (gaH b z).2.1 (raH b hb).2.1 rfl
      · exact ne_some (gaH b z).2.2.1 (maH b hb).2.2.1 rfl
    have g0 : Gr ns H R M G ra ma ga 0 H3 := ⟨(s1.trans s2).trans s3, s3 _ _ (s2 _ _ hR1), s3 _ _ hM2, hG3, fun b hb => ⟨[], [], s3 _ _ (s2 _ _ (hraA b hb).2.2), .nil, by simp, by simp⟩, fun b hb => ⟨[], s3 _ _ (hmaA b hb).2.2, by simp, by simp⟩, fun b hb => ⟨[], (hgaA b hb).2.2, by simp, by simp⟩⟩
    have hS' : ∀ {H' : Hp}, Same H H' → SqL K H' a (sc.map V.int) := fun s => s.seq hS
    have hnl' : ∀ {H' : Hp}, Same H H' → H' nl = some (.lst (ns.map V.str)) := fun s => s _ _ hnl
    refine ⟨_, rfl, _, rfl, a, _, rfl, .inl (hS' g0.sm), _, rfl, _, _, rfl, rfl, _, _, rfl, _, _, rfl, ⟨by omega, by omega, ?_, ?_⟩, for_range (fun i σ H5 => ∃ v8 v9 v10 v11 v12 v13 : Option V, σ = [some (.ref a), some (.int f0), some (.ref nl), some (.int d), some (.int (ns.length : Int)), some (.ref R), some (.ref M), some (.ref G), v8, v9, v10, v11, v12, v13] ∧ Gr ns H R M G ra ma ga i H5)
      ⟨none, none, none, none, none, none, by rw [List.length_map]; rfl, g0⟩ ?_ ?_⟩
    · rw [List.length_map]; split <;> omega
    · rw [List.length_map]; split <;> omega
    · rintro i σ H5 hi ⟨v8, v9, v10, v11, v12, v13, rfl, g5⟩
      rw [List.length_map] at hi
      have hik : f0 + (i : Int) < (sc.length : Int) ∧ i < 60 := by
        split at hi <;> omega
      have hat : atI (sc.map V.int) (f0 + (i : Int)) = some (.int (sc.getD (f0 + (i : Int)).toNat 0)) := atI_map V.int sc 0 (by omega) hik.1
      generalize sc.getD (f0 + (i : Int)).toNat 0 = c at hat
      have hn0 : (0 : Int) < (ns.length : Int) := by omega
      refine ⟨_, rfl, _, rfl, a, _, _, _, rfl, rfl, hS' g5.sm, hat, _, rfl, c, f0 + (i : Int), 65521, rfl, by omega, by omega, by decide, ?_⟩
      have hmx : 0 ≤ mixM c (f0 + (i : Int)) 65521 ∧ mixM c (f0 + (i : Int)) 65521 < 65521 := by unfold mixM; omega
      generalize mixM c (f0 + (i : Int)) 65521 = mx at hmx ⊢
      have hh := mod_lt (i := c) (n := ns.length) (by omega)
      refine ⟨_, rfl, _, rfl, a, _, _, _, rfl, rfl, hS' g5.sm, hat, _, rfl, _, _, rfl, rfl, hn0, ?_⟩
      refine ⟨_, rfl, _, rfl, _, rfl, _, rfl, c % (ns.length : Int), (ns.length : Int), mx, d, rfl, hh.1, hh.2, by omega, fun at' ha0 ha1 => ?_⟩
      obtain ⟨rb, hrb, erb⟩ := at_ref hra hh.1 hh.2
      obtain ⟨mb, hmb, emb⟩ := at_ref hma hh.1 hh.2
      obtain ⟨gb, hgb, egb⟩ := at_ref hga hh.1 hh.2
      obtain ⟨ub, hub, eub⟩ := at_ref hga ha0 ha1
      obtain ⟨vs, rws, hrbH, hrows, h40, hin⟩ := g5.rw rb hrb
      obtain ⟨ms, hmbH, hms, hmo⟩ := g5.mn mb hmb
      obtain ⟨gs, hgbH, hgs, hgo⟩ := g5.gv gb hgb
      obtain ⟨us, hubH, hus, huo⟩ := g5.gv ub hub
      have hvl : vs.length = rws.length := Paired.length hrows
      refine ⟨_, rfl, _, rfl, R, _, _, _, rfl, rfl, SqL.of g5.hR, erb, rb, _, rfl, .inl (SqL.of hrbH), _, _, rfl, rfl, _, rfl, ?_⟩
      refine ite2 (fun hlt => ?_) (fun hlt => ?_)
      · have hlt' : rws.length < 40 := by
          have := of_decide_eq_true hlt
          omega
        obtain ⟨o, ho, hoE⟩ : ∃ o : Option Str, (∀ p, o = some p → p ∈ ns) ∧ ((at' = c % (ns.length : Int) ∧ o = none) ∨ (at' ≠ c % (ns.length : Int) ∧ ∃ p, o = some p ∧ atI (ns.map V.str) at' = some (.str p))) := by
          by_cases e : at' = c % (ns.length : Int)
          · exact ⟨none, (fun p z => by cases z), .inl ⟨e, rfl⟩⟩
          · obtain ⟨y, hy, ey⟩ := atI_strs (l := ns) ha0 ha1
            exact ⟨some y, (fun p z => by cases z; exact hy), .inr ⟨e, y, rfl, ey⟩⟩
        refine set_ifexp (a := !decide (V.int at' = V.int (c % (ns.length : Int)))) (x := optV o) (fun Q' h => ⟨_, rfl, _, rfl, rfl, _, rfl, h⟩) (fun hb Q' h => ?_) (fun hb Q' h => ?_) ?_
        · rcases hoE with ⟨e, _⟩ | ⟨_, p, rfl, ep⟩
          · rw [e] at hb; simp at hb
          · exact ⟨_, rfl, _, rfl, nl, _, _, _, rfl, rfl, SqL.of (hnl' g5.sm), ep, h⟩
        · rcases hoE with ⟨_, rfl⟩ | ⟨e, _⟩
          · exact h
          · exact absurd hb (by simp [e])
        refine ⟨_, rfl, _, rfl, a, _, _, _, rfl, rfl, hS' g5.sm, hat, _, rfl, _, _, rfl, rfl, ⟨hn0, by omega⟩, _, _, rfl, rfl, (by show (0 : Int) < 8; decide), ?_⟩
        refine ⟨_, rfl, _, rfl, R, _, _, _, rfl, rfl, SqL.of g5.hR, erb, .inl ⟨rfl, _, SqL.of hrbH⟩, _, rfl, _, rfl, _, _, rfl, rfl, ⟨by decide, by decide⟩, _, rfl, _, rfl, _, rfl, M, _, _, _, rfl, rfl, SqL.of g5.hM, emb, _, rfl, _, rfl, G, _, _, _, rfl, rfl, SqL.of g5.hG, egb, _, rfl, _, rfl, G, _, _, _, rfl, rfl, SqL.of g5.hG, eub, ?_⟩
        refine ⟨_, mx / 7, o, mb, gb, ub, ms, gs, us, rfl, by omega, by omega, hmbH, hgbH, hubH, fun z => ap.mg mb hmb (z ▸ hgb), fun z => ap.mg mb hmb (z ▸ hub), by omega, by omega, by omega, hmo, hgo, huo, fun x rw ms' gs' H6 b2 hm' hg' mm mg hx ht => ?_⟩
        obtain ⟨hr6, g6⟩ := g5.row ap hrb hmb hgb b2 hrbH hrows hlt' hin hmbH hms hmo hgbH hgs hgo hm' hg' mm mg hx (ht.inN ho)
        exact ⟨rb, _, _, rfl, rfl, hr6, small1000 (by omega), _, _, _, _, _, _, rfl, g6⟩
      · exact ⟨_, _, _, _, _, _, rfl, g5.up⟩
    · rintro σ H5 ⟨v8, v9, v10, v11, v12, v13, rfl, g5⟩
      generalize Int.toNat _ = jj at g5
      have hnl5 := hnl' g5.sm
      refine ⟨_, rfl, _, rfl, nl, R, rfl, ⟨_, SqL.of hnl5⟩, ⟨_, SqL.of g5.hR⟩, fun D gD => ?_⟩
      refine comp_by ns.length (fun i σ H6 => ∃ (v0 v1 : Option V) (us : List V) (ps : List Pt), σ = [v0, v1] ∧ Same H5 H6 ∧ H6 D = some (.lst us) ∧ Paired (PartAt H6) us ps ∧ ps.map (·.1) = ns.take i ∧ (∀ pt ∈ ps, pt.2.length ≤ 40 ∧ ∀ r ∈ pt.2, InN ns r)) ⟨_, _, [], [], rfl, (Same.refl H5).new gD, upd_same, .nil, by simp, by simp⟩ ?_ ?_
      · rintro i σ H6 hi ⟨v0, v1, us, ps, rfl, s6, hD6, hps, hnm, hall⟩
        have hir : i < ra.length := by omega
        have e1 : (ns.map V.str)[i]? = some (.str ns[i]) := by simp [hi]
        have e2 : (ra.map V.ref)[i]? = some (.ref ra[i]) := by simp [hir]
        refine ⟨⟨_, _, _, _, SqL.of (s6 _ _ hnl5), SqL.of (s6 _ _ g5.hR), e1, e2⟩, ?_⟩
        rintro x H7 ⟨p, u, v, hu, hv, gp, rfl, rfl⟩
        have eu : u = .str ns[i] := Option.some.inj ((hu _ (SqL.of (s6 _ _ hnl5))).symm.trans e1)
        have ev : v = .ref ra[i] := Option.some.inj ((hv _ (SqL.of (s6 _ _ g5.hR))).symm.trans e2)
        subst eu ev
        obtain ⟨vs, rws, hrH, hrows, h40, hin⟩ := g5.rw ra[i] (List.getElem_mem hir)
        have s7 : Same H6 (upd H6 p (.tup [.str ns[i], .ref ra[i]])) := (Same.refl H6).new gp
        refine ⟨p, _, rfl, SqT.of upd_same, rfl, _, _, rfl, _, _, rfl, rfl, nt ?_⟩
        have hr7 := s7 _ _ (s6 _ _ hrH)
        refine ⟨_, rfl, _, rfl, ra[i], _, rfl, .inl ⟨SqL.of hr7, fun t gt => ⟨by show 2 ≤ sizeLine; decide, fun tp gtp => ?_⟩⟩⟩
        have s8 := s7.new (o := .tup vs) gt
        have s9 := s8.new (o := .tup [.str ns[i], .ref t]) gtp
        have hul : us.length = i := by
          have h1 := Paired.length hps
          have h2 := congrArg List.length hnm
          rw [List.length_map, List.length_take] at h2
          omega
        have hD9 := s9 _ _ hD6
        have T9 := Tups.lst (ys := us ++ [.ref tp]) hD9
        have Trows : Tups H5 _ := (s6.trans s9).tups.trans T9
        refine ⟨us, hD9, small1000 (by omega), _, _, us ++ [.ref tp], ps ++ [(ns[i], rws)], rfl, (s6.trans s9).put gD, upd_same, Paired.snoc (Paired.mapP hps fun _ _ z => z.mono (s9.tups.trans T9)) ⟨tp, t, vs, rfl, T9 _ _ upd_same, T9 _ _ (upd_keep upd_same gtp), hrows.mono Trows⟩, ?_, ?_⟩
        · rw [List.map_append, hnm, take_succ_get (x := ns[i]) (by simp)]
          rfl
        · intro pt hpt
          rcases List.mem_append.mp hpt with z | z
          · exact hall pt z
          · rw [List.mem_singleton.mp z]; exact ⟨h40, hin⟩
      · rintro σ H6 ⟨v0, v1, us, ps, rfl, s6, hD6, hps, hnm, hall⟩
        refine ⟨⟨_, _, SqL.of (s6 _ _ hnl5), SqL.of (s6 _ _ g5.hR), by simp, by simp [hra]⟩, ?_⟩
        rw [List.take_length] at hnm
        refine ⟨D, _, rfl, SqL.of hD6, fun x ob gx hob => ?_⟩
        have s7 : Same H6 (upd H6 x (.frz ob (.tup us))) := (Same.refl H6).new gx
        have hpl : ps.length = ns.length := by rw [← hnm, List.length_map]
        exact q x ps _ ((g5.sm.trans s6).trans s7) ⟨ob, us, upd_same, hob, Paired.mapP hps fun _ _ z => z.mono s7.tups⟩ hnm ⟨by rw [hnm]; exact hnd, by omega, fun pt hpt => (hall pt hpt).1⟩ fun pt hpt => (hall pt hpt).2
theorem inV_strs (x : Str) : ∀ l : List Str, inV (.str x) (l.map V.str) = decide (x ∈ l)
  | [] => by simp [inV]
  | a :: r => by
    have ih := inV_strs x r
    unfold inV at ih ⊢
    rw [List.map_cons, List.any_cons, ih]
    by_cases e : a = x
    · subst e; simp [eqV]
    · have h2 : ¬ x = a := fun z => e z.symm
      simp [eqV, e, h2]
theorem strs_flat : ∀ l : List Str, (l.map V.str).all flatV = true
  | [] => rfl
  | a :: r => by rw [List.map_cons, List.all_cons, strs_flat r]; rfl
theorem erase_map : ∀ (l : List Str) (k : Nat), (l.map V.str).eraseIdx k = (l.eraseIdx k).map V.str
  | [], _ => rfl
  | a :: r, 0 => rfl
  | a :: r, k + 1 => by
    show V.str a :: (r.map V.str).eraseIdx k = V.str a :: (r.eraseIdx k).map V.str
    rw [erase_map r k]
theorem erase_len : ∀ (l : List Str) (k : Nat), k < l.length → (l.eraseIdx k).length + 1 = l.length
  | [], _, h => by simp at h
  | a :: r, 0, _ => rfl
  | a :: r, k + 1, h => by
    have := erase_len r k (by simpa using h)
    show (r.eraseIdx k).length + 1 + 1 = r.length + 1
    omega
theorem g_if_any {t : TT} {te : TE} {R : TS} {D : Ends} {r : VK} {b k : L2.St → Hp → Prop} {i : Nat} {v : V} {σ : L2.St} {H : Hp} {Pv : V → Prop} (ht : ∀ Q : Bool → Hp → Prop, (∀ a, Q a H) → t (σ.set i (some v)) H Q) (hA : ∀ Q : VK, (∀ x, Pv x → Q x H) → te (σ.set i (some v)) H Q) (hv : Pv v) (h : ∀ y, Pv y → R D (σ.set i (some y)) H) : gName i v σ H (Ends.nx ⟨tSeq (tIfS t (tAsg te (gName i)) tNext) R D, r, b, k⟩) := by
  refine ht _ fun a => ?_
  cases a with
  | true =>
    refine iteT (hA _ fun x hx => ?_)
    show R D ((σ.set i (some v)).set i (some x)) H
    rw [List.set_set]
    exact h x hx
  | false => exact iteF (h v hv)
noncomputable abbrev Pl := Str × Nat × Rw
noncomputable def rowsPl (n : Str) (rs : List Rw) : List Pl := rs.zipIdx.map fun x => (n, x.2, x.1)
theorem rowsPl_snoc (n : Str) (rs : List Rw) (rw : Rw) : rowsPl n (rs ++ [rw]) = rowsPl n rs ++ [(n, rs.length, rw)] := by
  unfold rowsPl
  rw [List.zipIdx_append, List.map_append]
  simp
theorem rowsPl_len (n : Str) (rs : List Rw) : (rowsPl n rs).length = rs.length := by unfold rowsPl; simp
noncomputable def plsOf (ps : List Pt) : List Pl := ps.flatMap fun pt => rowsPl pt.1 pt.2
theorem plsOf_snoc (ps : List Pt) (pt : Pt) : plsOf (ps ++ [pt]) = plsOf ps ++ rowsPl pt.1 pt.2 := by
  unfold plsOf
  rw [List.flatMap_append]
  simp
theorem plsOf_len : ∀ {ps : List Pt}, (∀ pt ∈ ps, pt.2.length ≤ 40) → (plsOf ps).length ≤ 40 * ps.length
  | [], _ => by simp [plsOf]
  | pt :: r, h => by
    have h1 := plsOf_len (ps := r) fun p hp => h p (List.mem_cons_of_mem _ hp)
    have h2 := h pt List.mem_cons_self
    have e : plsOf (pt :: r) = rowsPl pt.1 pt.2 ++ plsOf r := rfl
    rw [e, List.length_append, rowsPl_len, List.length_cons]
    omega
noncomputable def PlAt (H : Hp) (v : V) (x : Pl) : Prop := ∃ t r, v = .ref t ∧ H t = some (.tup [.str x.1, .int (x.2.1 : Int), .ref r]) ∧ RowAt H r x.2.2
theorem PlAt.mono {H H' : Hp} (s : Tups H H') {v : V} {x : Pl} (h : PlAt H v x) : PlAt H' v x := by
  obtain ⟨t, r, e, h1, h2⟩ := h
  exact ⟨t, r, e, s _ _ h1, h2.mono s⟩
noncomputable def spPlaced : Sp := fun vs H Q _ => ∃ (a : Addr) (ps : List Pt), vs = [.ref a] ∧ PartsF H a ps ∧ PsFit ps ∧ ∀ (p : Addr) (vs : List V) (H' : Hp), Same H H' → H' p = some (.tup vs) → Paired (PlAt H') vs (plsOf ps) → Q (.ref p) H'
theorem ok_placed (T : Txt K mg) : L2.Cl P w K mg base 1 "placed_rows" ["parts"] spPlaced := by
  refine Cl.of T.d_placed_rows sc_placed_rows (fun vs H Q E h => ?_) (fun _ _ _ _ _ _ us hl => by obtain ⟨a, rfl⟩ := len1 hl; rfl) (fun fa cdv A outer s H vs Q E hr h => ?_)
  · obtain ⟨a, ps, rfl, _⟩ := h
    rfl
  · obtain ⟨a, ps, rfl, hpf, hfit, q⟩ := h
    obtain ⟨o, vs, ha, ho, hps⟩ := id hpf
    have sqa : ∀ {H2 : Hp}, Same H H2 → SqT K H2 a vs := fun s2 => .inl (.inr ⟨o, s2 _ _ ha⟩)
    have hvl : vs.length = ps.length := Paired.length hps
    have hhi := hfit.hi
    refine ⟨_, (pss_cons (ps_set (i := 1) sc_placed_rows.nd rfl (Or.inl rfl) (pe_lst pa_nil))
      (pss_cons (ps_for PassesOwn.never rfl (pi_tup (pv 0)) (pg_tup rfl (pgs_cons (pg_name (i := 2) sc_placed_rows.nd rfl (Or.inl rfl)) (pgs_cons (pg_name (i := 3) sc_placed_rows.nd rfl (Or.inl rfl)) pgs_nil)))
        (pss_one (ps_for PassesOwn.never rfl (pi_enumT (by rfl) T.n_enumerate (pa_cons (pv 3) pa_nil)) (pg_tup rfl (pgs_cons (pg_name (i := 4) sc_placed_rows.nd rfl (Or.inl rfl)) (pgs_cons (pg_name (i := 5) sc_placed_rows.nd rfl (Or.inl rfl)) pgs_nil)))
          (pss_one (ps_expr (pe_bm PySem.F.plainAttrs_list PySem.F.slot_list_append PySem.F.type_list_append mt_append (pv 1) (pa_cons (pe_tup (pa_cons (pv 2) (pa_cons (pv 4) (pa_cons (pv 5) pa_nil)))) pa_nil)))))))
      (pss_one (ps_ret (pe_callTy call_tuple_of (by rfl) T.n_tuple boot_tuple (pa_cons (pv 1) pa_nil)))))), ?_⟩
    refine ⟨(by show 0 ≤ sizeLine; decide), fun l gl => ?_⟩
    have s1 : Same H (upd H l (.lst [])) := (Same.refl H).new gl
    refine ⟨_, rfl, a, rfl, ⟨_, sqa s1⟩, for_tup (K := K) (a := a) (xs := vs) (fun i σ H2 => ∃ (us : List V) (v2 v3 v4 v5 : Option V), σ = [some (.ref a), some (.ref l), v2, v3, v4, v5] ∧ Same H H2 ∧ H2 l = some (.lst us) ∧ Paired (PlAt H2) us (plsOf (ps.take i)))
      ⟨[], none, none, none, none, rfl, s1, upd_same, by rw [List.take_zero]; exact .nil⟩ (fun i σ H2 _ ⟨_, _, _, _, _, _, s2, _⟩ => sqa s2) ?_ ?_⟩
    · rintro i y σ H2 hy ⟨us, v2, v3, v4, v5, rfl, s2, hl2, hus⟩
      obtain ⟨pt, hpt, t, u, ws, ey, ht, hu', hrs⟩ := Paired.get? hps hy
      subst ey
      have hi : i < vs.length := (List.getElem?_eq_some_iff.mp hy).1
      have hr40 := hfit.rows _ (List.mem_of_getElem? hpt)
      have hpl : (plsOf (ps.take i)).length ≤ 40 * 23 := by
        have h1 := plsOf_len (ps := ps.take i) fun p hp => hfit.rows p (List.mem_of_mem_take hp)
        rw [List.length_take] at h1
        omega
      have hwl : ws.length = pt.2.length := Paired.length hrs
      refine ⟨t, _, rfl, SqT.of (s2 _ _ ht), rfl, _, _, rfl, _, _, rfl, rfl, ?_⟩
      refine ⟨_, rfl, u, rfl, ⟨_, SqT.of (s2 _ _ hu')⟩, for_enum (K := K) (a := u) (xs := ws) (fun j σ H3 => ∃ (us : List V) (v4 v5 : Option V), σ = [some (.ref a), some (.ref l), some (.str pt.1), some (.ref u), v4, v5] ∧ Same H H3 ∧ H3 l = some (.lst us) ∧ Paired (PlAt H3) us (plsOf (ps.take i) ++ rowsPl pt.1 (pt.2.take j)))
        ⟨us, _, _, rfl, s2, hl2, by rw [List.take_zero]; show Paired _ us (plsOf (ps.take i) ++ []); rw [List.append_nil]; exact hus⟩ (fun j σ H3 _ ⟨_, _, _, _, s3, _⟩ => SqT.of (s3 _ _ hu')) ?_ ?_⟩
      · rintro j y p σ H3 hy3 ⟨us3, w4, w5, rfl, s3, hl3, hus3⟩ hp
        obtain ⟨rw, hrw, r, er, hra⟩ := Paired.get? hrs hy3
        subst er
        have hj : j < pt.2.length := (List.getElem?_eq_some_iff.mp hrw).1
        have hul : us3.length = (plsOf (ps.take i)).length + j := by
          rw [Paired.length hus3, List.length_append, rowsPl_len, List.length_take]; omega
        have s4 : Same H3 (upd H3 p (.tup [.int (j : Int), .ref r])) := (Same.refl H3).new hp
        refine ⟨p, _, rfl, SqT.of upd_same, rfl, _, _, rfl, _, _, rfl, rfl, ?_⟩
        refine ⟨_, rfl, .inl ⟨rfl, _, SqL.of (s4 _ _ hl3)⟩, _, rfl, _, rfl, _, rfl, (by show 3 ≤ sizeLine; decide), fun c gc => ?_⟩
        have s5 := s4.new (o := .tup [.str pt.1, .int (j : Int), .ref r]) gc
        refine ⟨l, _, _, rfl, rfl, s5 _ _ hl3, small1000 (by omega), ?_⟩
        have T5 := s5.tups.trans (Tups.lst (ys := us3 ++ [.ref c]) (s5 _ _ hl3))
        have hne : c ≠ l := fun z => by rw [z] at gc; rw [s4 _ _ hl3] at gc; cases gc
        refine ⟨us3 ++ [.ref c], _, _, rfl, (s3.trans s5).put gl, upd_same, ?_⟩
        rw [take_succ_get hrw, rowsPl_snoc, ← List.append_assoc]
        refine Paired.snoc (Paired.mapP hus3 fun _ _ z => z.mono T5) ⟨c, r, rfl, ?_, ((hra.mono s3.tups).mono T5)⟩
        rw [upd_ne hne, upd_same]
        have : (pt.2.take j).length = j := by rw [List.length_take]; omega
        simp only [this]
      · rintro σ H3 ⟨us3, w4, w5, rfl, s3, hl3, hus3⟩
        rw [hwl, List.take_length] at hus3
        refine ⟨us3, _, _, _, _, rfl, s3, hl3, ?_⟩
        rw [take_succ_get hpt, plsOf_snoc]
        exact hus3
    · rintro σ H2 ⟨us, v2, v3, v4, v5, rfl, s2, hl2, hus⟩
      rw [hvl, List.take_length] at hus
      refine ⟨_, rfl, l, _, rfl, .inl ⟨SqL.of hl2, fun p gp => ?_⟩⟩
      have s3 : Same H2 (upd H2 p (.tup us)) := (Same.refl H2).new gp
      exact q p us _ (s2.trans s3) upd_same (Paired.mapP hus fun _ _ z => z.mono s3.tups)
noncomputable def askN : Rw → Option Str
  | .ask p _ => some p
  | _ => none
noncomputable def asked (ps : List Pt) : List Str := (plsOf ps).filterMap fun x => askN x.2.2
theorem row_ask {H : Hp} {r : Addr} {rw : Rw} (h : RowAt H r rw) : (∃ p rest, askN rw = some p ∧ kindS rw = "ask" ∧ H r = some (.tup (.str "ask" :: .str p :: rest))) ∨ (askN rw = none ∧ ¬ kindS rw = "ask" ∧ ∃ x rest, H r = some (.tup (.str (kindS rw) :: x :: rest))) := by
  cases rw with
  | ask p w => exact .inl ⟨p, _, rfl, rfl, h⟩
  | _ => exact .inr ⟨rfl, by simp only [kindS]; decide +kernel, RowAt.kind h⟩
theorem asked_flat : ∀ ps : List Pt, asked ps = ps.flatMap fun pt => pt.2.filterMap askN
  | [] => rfl
  | pt :: r => by
    have ih := asked_flat r
    unfold asked at ih ⊢
    have e : plsOf (pt :: r) = rowsPl pt.1 pt.2 ++ plsOf r := rfl
    rw [e, List.filterMap_append, ih, List.flatMap_cons]
    congr 1
    unfold rowsPl
    rw [List.filterMap_map]
    have : ∀ (l : List Rw) (k : Nat), (l.zipIdx k).filterMap ((fun x : Pl => askN x.2.2) ∘ fun x : Rw × Nat => (pt.1, x.2, x.1)) = l.filterMap askN := by
      intro l
      induction l with
      | nil => intro k; rfl
      | cons a l ih =>
        intro k
        rw [List.zipIdx_cons, List.filterMap_cons, List.filterMap_cons, ih]
        rfl
    exact this _ 0
noncomputable def rootsOf (ps : List Pt) (bs : List Str) : List Str := bs ++ (ps.map (·.1)).filter fun n => decide (n ∈ asked ps) && !decide (n ∈ bs)
noncomputable def spRoots : Sp := fun vs H Q _ => ∃ (a b : Addr) (ps : List Pt) (bs : List Str), vs = [.ref a, .ref b] ∧ PartsF H a ps ∧ PsFit ps ∧ H b = some (.tup (bs.map V.str)) ∧ bs.length ≤ 24 ∧ ∀ (p : Addr) (H' : Hp), Same H H' → H' p = some (.tup ((rootsOf ps bs).map V.str)) → Q (.ref p) H'
theorem cat_same {K : PySem.W.Frag} {H : Hp} {a b : Addr} {xs ys : List V} {Q : VK} (ha : H a = some (.tup xs)) (hb : H b = some (.tup ys)) (hl : xs.length + ys.length ≤ 1000) (q : ∀ (p : Addr) (H' : Hp), Same H H' → H' p = some (.tup (xs ++ ys)) → Q (.ref p) H') : rCatA K (.ref a) (.ref b) H Q := by
  refine ⟨a, b, xs, ys, rfl, rfl, SqT.of ha, SqT.of hb, Nat.le_of_lt (small1000 hl), ?_, ?_, ?_⟩
  · rintro rfl
    exact q b H (Same.refl H) (by rw [List.nil_append]; exact hb)
  · rintro _ rfl
    exact q a H (Same.refl H) (by rw [List.append_nil]; exact ha)
  · intro _ _ p gp
    exact q p _ ((Same.refl H).new gp) upd_same
theorem filter_snoc {p : Str → Bool} {l : List Str} {i : Nat} {x : Str} (h : l[i]? = some x) : (l.take (i + 1)).filter p = (l.take i).filter p ++ if p x = true then [x] else [] := by
  rw [take_succ_get h, List.filter_append]
  by_cases e : p x = true
  · rw [if_pos e, List.filter_cons_of_pos e]; rfl
  · rw [if_neg e, List.filter_cons_of_neg e]; rfl
theorem ok_roots (T : Txt K mg) : L2.Cl P w K mg base 2 "roots" ["parts", "beginnings"] spRoots := by
  have C_placed_rows := ok_placed (P := P) (w := w) (base := base) T
  refine Cl.of T.d_roots sc_roots (fun vs H Q E h => ?_) (fun _ _ _ _ _ _ us hl => by obtain ⟨a, b, rfl⟩ := len2 hl; rfl) (fun f cdv A outer s H vs Q E hr h => ?_)
  · obtain ⟨a, b, ps, bs, rfl, _⟩ := h
    rfl
  · obtain ⟨a, b, ps, bs, rfl, hpf, hfit, hb, hbl, q⟩ := h
    refine ⟨_, (pss_cons (ps_set (i := 2) sc_roots.nd rfl (Or.inr rfl) (pe_comp (M := ["part", "number", "row"]) (ρ := [none, none, none]) (defScope s_roots) ["parts", "beginnings", "asked"] ⟨rfl, by decide +kernel, by decide +kernel, by decide +kernel, rfl, by decide +kernel, by decide +kernel⟩ (pi_tup (pe_fn C_placed_rows hr (by rfl) (pa_cons (pv 0) pa_nil))) (fun _ _ _ _ _ _ => (pg_tupK (K := K) (n := 3) rfl rfl (pgs_cons (pg_name (i := 0) (show (["part", "number", "row"] : List Str).Nodup by decide +kernel) rfl (Or.inl rfl)) (pgs_cons (pg_name (i := 1) (show (["part", "number", "row"] : List Str).Nodup by decide +kernel) rfl (Or.inl rfl)) (pgs_cons (pg_name (i := 2) (show (["part", "number", "row"] : List Str).Nodup by decide +kernel) rfl (Or.inl rfl)) pgs_nil))))) (fun _ _ _ _ _ _ => (pts_one (pt_cmpR op_eq (pe_ix (ix_tupK (K := K) rfl) (pv 2) pe_int (fun _ _ => rfl)) pe_str (nomark _)))) (fun _ _ _ _ _ _ => (pe_ix (ix_tupK (K := K) rfl) (pv 2) pe_int (fun _ _ => rfl)))))
      (pss_one (ps_ret (pe_op op_catA (pv 1) (pe_callTy call_tuple_of (by rfl) T.n_tuple boot_tuple (pa_cons (pe_comp (M := ["part", "rows", "asked", "beginnings"]) (ρ := [none, none, some 2, some 1]) (defScope s_roots) ["parts", "beginnings", "asked"] ⟨rfl, by decide +kernel, by decide +kernel, by decide +kernel, rfl, by decide +kernel, by decide +kernel⟩ (pi_tup (pv 0)) (fun _ _ _ _ _ _ => (pg_tupK (K := K) (n := 2) rfl rfl (pgs_cons (pg_name (i := 0) (show (["part", "rows", "asked", "beginnings"] : List Str).Nodup by decide +kernel) rfl (Or.inl rfl)) (pgs_cons (pg_name (i := 1) (show (["part", "rows", "asked", "beginnings"] : List Str).Nodup by decide +kernel) rfl (Or.inl rfl)) pgs_nil)))) (fun _ _ _ _ _ _ => (pts_one (PW.pt (pw_and (pt_cmpR (op_in_seqK (K := K) rfl) (pv 0) (pv 2) (by with_unfolding_all rfl)) (pw_and1 (pt_cmpR (op_notin_seqK (K := K) rfl) (pv 0) (pv 3) (by with_unfolding_all rfl))))))) (fun _ _ _ _ _ _ => (pv 0))) pa_nil)))))), ?_⟩
    refine ⟨_, rfl, a, ps, rfl, hpf, hfit, fun p vs H1 s1 hp hvs => ?_⟩
    have hvl : vs.length = (plsOf ps).length := Paired.length hvs
    have hpl : (plsOf ps).length ≤ 960 := by
      have h1 := plsOf_len hfit.rows
      have h2 := hfit.hi
      omega
    refine ⟨p, rfl, ⟨_, SqT.of hp⟩, fun D gD => ?_⟩
    refine comp_by vs.length (fun i σ H3 => ∃ v0 v1 v2 : Option V, σ = [v0, v1, v2] ∧ Same H1 H3 ∧ H3 D = some (.lst ((((plsOf ps).take i).filterMap fun x => askN x.2.2).map V.str))) ⟨_, _, _, rfl, (Same.refl H1).new gD, upd_same⟩ ?_ ?_
    · rintro i σ H3 hi ⟨v0, v1, v2, rfl, s3, hD3⟩
      refine ⟨⟨vs, vs[i], SqT.of (s3 _ _ hp), by simp⟩, ?_⟩
      rintro x H4 ⟨rfl, hx⟩
      obtain ⟨⟨n, j, rw⟩, hz, t, r, ey, ht, hra⟩ := Paired.get? hvs (hx _ (SqT.of (s3 _ _ hp)))
      subst ey
      have hra3 := hra.mono s3.tups
      have hlen : ((((plsOf ps).take i).filterMap fun x => askN x.2.2).map V.str).length ≤ 960 := by
        rw [List.length_map]
        have h2 : (((plsOf ps).take i).filterMap fun x => askN x.2.2).length ≤ ((plsOf ps).take i).length := List.length_filterMap_le _ _
        rw [List.length_take] at h2
        omega
      refine ⟨t, _, rfl, SqT.of (s3 _ _ ht), rfl, _, _, rfl, _, _, rfl, _, _, rfl, rfl, ?_⟩
      rcases row_ask hra3 with ⟨m, rest, hm, hk, hrt⟩ | ⟨hm, hk, x1, rest, hrt⟩
      · have z0 : atI (V.str "ask" :: V.str m :: rest) 0 = some (.str "ask") := atI_nat (j := 0) rfl
        have z1 : atI (V.str "ask" :: V.str m :: rest) 1 = some (.str m) := atI_nat (j := 1) rfl
        refine ⟨_, rfl, r, _, _, _, rfl, rfl, SqT.of hrt, z0, rfl, _, rfl, iteSE ?_⟩
        refine ⟨_, rfl, r, _, _, _, rfl, rfl, SqT.of hrt, z1, _, hD3, small1000 (by omega), _, _, _, rfl, s3.put gD, ?_⟩
        rw [upd_same, take_succ_get hz, List.filterMap_append, List.map_append]
        simp [hm]
      · have z0 : atI (V.str (kindS rw) :: x1 :: rest) 0 = some (.str (kindS rw)) := atI_nat (j := 0) rfl
        refine ⟨_, rfl, r, _, _, _, rfl, rfl, SqT.of hrt, z0, rfl, _, rfl, iteSN hk ?_⟩
        refine ⟨_, _, _, rfl, s3, ?_⟩
        rw [take_succ_get hz, List.filterMap_append, hD3]
        simp [hm]
    · rintro σ H3 ⟨v0, v1, v2, rfl, s3, hD3⟩
      refine ⟨⟨vs, SqT.of (s3 _ _ hp), Nat.le_refl _⟩, ?_⟩
      rw [hvl, List.take_length] at hD3
      have hD3' : H3 D = some (.lst ((asked ps).map V.str)) := hD3
      obtain ⟨oo, ws, ha, ho, hps⟩ := id hpf
      have s13 := s1.trans s3
      have sqa : ∀ {H' : Hp}, Same H H' → SqT K H' a ws := fun s2 => .inl (.inr ⟨oo, s2 _ _ ha⟩)
      have hwl : ws.length = ps.length := Paired.length hps
      have hpi := hfit.hi
      refine ⟨_, rfl, _, rfl, a, rfl, ⟨_, sqa s13⟩, fun D2 gD2 => ?_⟩
      refine comp_by ws.length (fun i σ H4 => ∃ v0 v1 : Option V, σ = [v0, v1, some (.ref D), some (.ref b)] ∧ Same H3 H4 ∧ H4 D2 = some (.lst ((((ps.map (·.1)).take i).filter fun n => decide (n ∈ asked ps) && !decide (n ∈ bs)).map V.str))) ⟨_, _, rfl, (Same.refl H3).new gD2, by rw [upd_same]; simp⟩ ?_ ?_
      · rintro i σ H4 hi ⟨v0, v1, rfl, s4, hD4⟩
        have s14 := s13.trans s4
        refine ⟨⟨ws, ws[i], sqa s14, by simp⟩, ?_⟩
        rintro x H5 ⟨rfl, hx⟩
        obtain ⟨pt, hpt, t, u, zs, ey, ht, hu', hrs⟩ := Paired.get? hps (hx _ (sqa s14))
        subst ey
        have hn : (ps.map (·.1))[i]? = some pt.1 := by rw [List.getElem?_map, hpt]; rfl
        refine ⟨t, _, rfl, SqT.of (s14 _ _ ht), rfl, _, _, rfl, _, _, rfl, rfl, ?_⟩
        refine tand_pure (a := decide (pt.1 ∈ asked ps)) (b := !decide (pt.1 ∈ bs)) (fun Q' h => ⟨_, rfl, _, rfl, D, _, rfl, .inl (SqL.of (s4 _ _ hD3')), rfl, strs_flat _, _, rfl, by rw [if_neg Bool.false_ne_true, inV_strs]; exact h⟩) (fun Q' h => ⟨_, rfl, _, rfl, b, _, rfl, .inr (SqT.of (s14 _ _ hb)), rfl, strs_flat _, _, rfl, by rw [if_pos rfl, inV_strs]; exact h⟩) _ ?_
        refine ite2 (fun hc => ?_) (fun hc => ?_)
        · refine ⟨_, rfl, _, hD4, small1000 ?_, _, _, rfl, s4.put gD2, ?_⟩
          · rw [List.length_map]
            have h2 := List.length_filter_le (fun n => decide (n ∈ asked ps) && !decide (n ∈ bs)) ((ps.map (·.1)).take i)
            rw [List.length_take] at h2
            omega
          · rw [upd_same, filter_snoc hn, if_pos hc, List.map_append]
            rfl
        · refine ⟨_, _, rfl, s4, ?_⟩
          rw [filter_snoc hn, if_neg hc, List.append_nil]
          exact hD4
      · rintro σ H4 ⟨v0, v1, rfl, s4, hD4⟩
        have s14 := s13.trans s4
        refine ⟨⟨ws, sqa s14, Nat.le_refl _⟩, ?_⟩
        rw [hwl, List.take_of_length_le (by rw [List.length_map]; omega)] at hD4
        refine ⟨D2, _, rfl, .inl ⟨SqL.of hD4, fun t gt => ?_⟩⟩
        have s5 := s14.new (o := .tup (((ps.map (·.1)).filter fun n => decide (n ∈ asked ps) && !decide (n ∈ bs)).map V.str)) gt
        refine cat_same (s5 _ _ hb) upd_same ?_ fun p2 H6 s6 hp2 => ?_
        · rw [List.length_map, List.length_map]
          have h2 := List.length_filter_le (fun n => decide (n ∈ asked ps) && !decide (n ∈ bs)) (ps.map (·.1))
          rw [List.length_map] at h2
          omega
        · exact q p2 H6 (s5.trans s6) (by rw [hp2, rootsOf, List.map_append])
theorem nodup_lenG {α : Type} [DecidableEq α] : ∀ (l N : List α), l.Nodup → (∀ x ∈ l, x ∈ N) → l.length ≤ N.length
  | [], N, _, _ => Nat.zero_le _
  | a :: r, N, hn, hs => by
    rw [List.nodup_cons] at hn
    have ha : a ∈ N := hs a List.mem_cons_self
    have h1 := nodup_lenG r (N.erase a) hn.2 fun x hx => (List.mem_erase_of_ne (fun z => hn.1 (by rw [← z]; exact hx))).mpr (hs x (List.mem_cons_of_mem _ hx))
    rw [List.length_erase_of_mem ha] at h1
    have : 0 < N.length := List.length_pos_of_mem ha
    simp only [List.length_cons]; omega
theorem setD_val (l : List Str) (x : Str) : valV (setD l) (Sum.inr x) = if x ∈ l then some (.bl true) else none := by
  induction l with
  | nil => rfl
  | cons a r ih =>
    have e : setD (a :: r) = (Sum.inr a, .bl true) :: setD r := rfl
    rw [e]
    by_cases h : a = x
    · subst h
      rw [valV_pos rfl, if_pos List.mem_cons_self]
    · rw [valV_neg (fun z => h (Sum.inr.inj z)), ih]
      by_cases hm : x ∈ r
      · rw [if_pos hm, if_pos (List.mem_cons_of_mem _ hm)]
      · rw [if_neg hm, if_neg (fun z => by rcases List.mem_cons.mp z with y | y; exact h y.symm; exact hm y)]
theorem setD_some (l : List Str) (x : Str) : (valV (setD l) (Sum.inr x)).isSome = decide (x ∈ l) := by
  rw [setD_val]
  by_cases h : x ∈ l
  · rw [if_pos h, decide_eq_true h]; rfl
  · rw [if_neg h, decide_eq_false h]; rfl
theorem addN_mem (l : List Str) (x y : Str) : y ∈ addN l x ↔ y ∈ l ∨ y = x := by
  unfold addN
  by_cases h : x ∈ l
  · rw [if_pos h]
    exact ⟨.inl, fun z => by rcases z with z | z; exact z; rw [z]; exact h⟩
  · rw [if_neg h, List.mem_append, List.mem_singleton]
theorem g_while {c : TT} {tb R : TS} {D : Ends} {N : L2.St → Hp → Prop} {i : Nat} {v : V} {σ : L2.St} {H : Hp} (e : N = tSeq (tWhile c tb) R D) (h : tWhile c tb { D with nx := R D } (σ.set i (some v)) H) : gName i v σ H N := by
  show N (σ.set i (some v)) H
  rw [e]
  exact h
theorem addN_nodup {l : List Str} (h : l.Nodup) (x : Str) : (addN l x).Nodup := by
  unfold addN
  by_cases hx : x ∈ l
  · rw [if_pos hx]; exact h
  · rw [if_neg hx]
    refine List.nodup_append.mpr ⟨h, by simp, fun a ha b hb z => ?_⟩
    rw [List.mem_singleton.mp hb] at z
    exact hx (by rw [← z]; exact ha)
theorem mem_fold (k m : Str) : ∀ (rs : List Rw) (l : List Str), m ∈ rs.foldl (stepN k) l ↔ m ∈ l ∨ ∃ r ∈ rs, namesIt k r = some m
  | [], l => by simp
  | r :: rs, l => by
    rw [List.foldl_cons, mem_fold k m rs]
    have h : m ∈ stepN k l r ↔ m ∈ l ∨ namesIt k r = some m := by
      unfold stepN
      cases e : namesIt k r with
      | none => simp
      | some x =>
        show m ∈ addN l x ↔ _
        rw [addN_mem]
        simp only [Option.some.injEq]
        exact ⟨fun z => by rcases z with z | z; exact .inl z; exact .inr z.symm, fun z => by rcases z with z | z; exact .inl z; exact .inr z.symm⟩
    rw [h]
    simp only [List.mem_cons, exists_eq_or_imp, or_assoc]
theorem mem_namedOf (k m : Str) (rs : List Rw) : m ∈ namedOf k rs ↔ ∃ r ∈ rs, namesIt k r = some m := by
  unfold namedOf
  rw [mem_fold]
  simp
noncomputable def muS (f wl : Addr) (H : Hp) : Nat := match H f, H wl with
  | some (.dK kvs), some (.lst W) => (50 - kvs.length) * 101 + W.length
  | _, _ => 0
theorem muS_eq {f wl : Addr} {H : Hp} {l W : List Str} (h1 : H f = some (.dK (setD l))) (h2 : H wl = some (.lst (W.map V.str))) : muS f wl H = (50 - l.length) * 101 + W.length := by
  unfold muS
  rw [h1, h2]
  simp only [setD_len, List.length_map]
theorem strs_drop (W : List Str) : (W.map V.str).dropLast = W.dropLast.map V.str := by
  rw [List.map_dropLast]
inductive Dfs (k : Str → List Str) : List Str → List Str → List Str → Prop where
  | nil {V : List Str} : Dfs k V [] V
  | old {V r R : List Str} {n : Str} : n ∈ V → Dfs k V r R → Dfs k V (n :: r) R
  | new {V r R : List Str} {n : Str} : n ∉ V → Dfs k (V ++ [n]) (k n ++ r) R → Dfs k V (n :: r) R
noncomputable def rowsOf (ps : List Pt) (n : Str) : List Rw := ((ps.find? fun p => decide (p.1 = n)).map (·.2)).getD []
theorem rowsOf_eq : ∀ {ps : List Pt} {n : Str} {rs : List Rw}, (ps.map (·.1)).Nodup → (n, rs) ∈ ps → rowsOf ps n = rs
  | [], n, rs, _, h => by simp at h
  | p :: ps, n, rs, hn, h => by
    rw [List.map_cons, List.nodup_cons] at hn
    rcases List.mem_cons.mp h with e | e
    · unfold rowsOf
      rw [List.find?_cons_of_pos (by rw [← e]; simp), ← e]; rfl
    · have hne : ¬ p.1 = n := fun z => hn.1 (by rw [z]; exact List.mem_map_of_mem (f := (·.1)) e)
      have := rowsOf_eq hn.2 e
      unfold rowsOf at this ⊢
      rw [List.find?_cons_of_neg (by simpa using hne)]
      exact this
noncomputable def k1 (ps : List Pt) (n : Str) : List Str := namedOf "bring" (rowsOf ps n)
noncomputable def ClosedB (ps : List Pt) : Prop := ∀ n ∈ ps.map (·.1), ∀ m ∈ k1 ps n, m ∈ ps.map (·.1)
theorem part_of {ps : List Pt} {n : Str} (h : n ∈ ps.map (·.1)) : ∃ rs, (n, rs) ∈ ps := by
  obtain ⟨p, hp, e⟩ := List.mem_map.mp h
  exact ⟨p.2, by rw [← e]; exact hp⟩
noncomputable def spOrder : Sp := fun vs H Q _ => ∃ (a : Addr) (ps : List Pt) (n : Str), vs = [.ref a, .str n] ∧ PartsF H a ps ∧ PsFit ps ∧ ClosedB ps ∧ n ∈ ps.map (·.1) ∧ ∀ (p : Addr) (R : List Str) (H' : Hp), Same H H' → H' p = some (.tup (R.map V.str)) → Dfs (k1 ps) [] [n] R → Q (.ref p) H'
theorem ok_order (T : Txt K mg) : L2.Cl P w K mg base 3 "order" ["parts", "root"] spOrder := by
  have C_brings := ok_brings (P := P) (w := w) (base := base) T
  refine Cl.of T.d_order sc_order (fun vs H Q E h => ?_) (fun _ _ _ _ _ _ us hl => by obtain ⟨a, b, rfl⟩ := len2 hl; rfl) (fun fa cdv A outer s H vs Q E hr h => ?_)
  · obtain ⟨a, ps, n, rfl, _⟩ := h
    rfl
  · obtain ⟨a, ps, root, rfl, hpf, hfit, hcl, hroot, q⟩ := h
    have hu := hu_of hr
    have hN : (ps.map (·.1)).length ≤ 24 := by rw [List.length_map]; exact hfit.hi
    refine ⟨_, (pss_cons (ps_set (i := 2) sc_order.nd rfl (Or.inl rfl) pe_dnewK)
      (pss_cons (ps_set (i := 3) sc_order.nd rfl (Or.inl rfl) (pe_lst (pa_cons (pv 1) pa_nil)))
      (pss_cons (ps_while PassesOwn.never (pt_truth (pv 3) (fun _ => rfl))
        (pss_cons (ps_set (i := 4) sc_order.nd rfl (Or.inl rfl) (pe_bm0 PySem.F.plainAttrs_list PySem.F.slot_list_pop PySem.F.type_list_pop mt_pop (pv 3)))
        (pss_one (ps_if (pt_cmp (pc_dnotin hu (pv 4) (pv 2)))
          (pss_cons (ps_dput hu (pv 2) (pv 4) pe_bl rfl)
          (pss_one (ps_expr (pe_bm PySem.F.plainAttrs_list PySem.F.slot_list_extend PySem.F.type_list_extend mt_extend (pv 3) (pa_cons (pe_lrev rfl (pe_fn C_brings hr (by rfl) (pa_cons (pv 0) (pa_cons (pv 4) pa_nil))) (by rfl) T.n_list (by rfl) T.n_reversed) pa_nil))))) pss_nil))))
      (pss_one (ps_ret (pe_callTy (call_tupleD rfl) (by rfl) T.n_tuple boot_tuple (pa_cons (pv 2) pa_nil))))))), ?_⟩
    intro f gf
    have s1 : Same H (upd H f (.dK [])) := (Same.refl H).new gf
    refine ⟨_, rfl, (by show 1 ≤ sizeLine; decide), fun wl gw => ?_⟩
    have s2 : Same H (upd (upd H f (.dK [])) wl (.lst [.str root])) := s1.new gw
    have hfw : f ≠ wl := ne_of_none (upd_same (H := H) (a := f) (o := .dK [])) gw
    have gwH : H wl = none := s1.free gw
    apply g_while
    · with_reducible_and_instances rfl
    refine while_by (fun σ H2 => ∃ (l W : List Str) (v4 : Option V), σ = [some (.ref a), some (.str root), some (.ref f), some (.ref wl), v4] ∧ Same H H2 ∧ H2 f = some (.dK (setD l)) ∧ H2 wl = some (.lst (W.map V.str)) ∧ l.Nodup ∧ (∀ n ∈ l, n ∈ ps.map (·.1)) ∧ (∀ n ∈ W, n ∈ ps.map (·.1)) ∧ W.length + (50 - l.length) * 101 ≤ 6000 ∧ ∀ R, Dfs (k1 ps) l W.reverse R → Dfs (k1 ps) [] [root] R) (fun _ H2 => muS f wl H2)
      ⟨[], [root], none, rfl, s2, by rw [upd_ne hfw, upd_same]; rfl, upd_same, List.nodup_nil, fun n hn => by simp at hn, fun n hn => by rw [List.mem_singleton.mp hn]; exact hroot, by simp only [List.length_nil, List.length_singleton]; omega, fun R h => h⟩ ?_ ?_
    · rintro σ H2 ⟨l, W, v4, rfl, s3, hf, hw, hnd, hlN, hWN, hbd, hD⟩
      refine ⟨_, rfl, _, .inl ⟨_, SqL.of hw, rfl⟩, ?_⟩
      have hll := nodup_lenG l _ hnd hlN
      cases hW : W.getLast? with
      | none =>
        have hWe : W = [] := List.getLast?_eq_none_iff.mp hW
        subst hWe
        refine iteF ?_
        refine ⟨_, rfl, f, _, rfl, .inl hf, fun p gp => ?_⟩
        rw [setD_keys]
        exact q p l _ (s3.new gp) upd_same (hD l .nil)
      | some x =>
        have hne : W ≠ [] := fun z => by rw [z] at hW; simp at hW
        have hWd : W = W.dropLast ++ [x] := by
          obtain ⟨ys, hys⟩ := List.getLast?_eq_some_iff.mp hW
          rw [hys, List.dropLast_concat]
        have hxW : x ∈ W := by rw [hWd]; simp
        have hpos : 0 < W.length := List.length_pos_of_mem hxW
        have hrev : W.reverse = x :: W.dropLast.reverse := by
          conv => lhs; rw [hWd]
          rw [List.reverse_append]
          rfl
        rw [show (!(W.map V.str).isEmpty) = true by cases W with | nil => exact absurd rfl hne | cons _ _ => rfl]
        refine iteT ?_
        have hlast : (W.map V.str)[(W.map V.str).length - 1]? = some (.str x) := by
          rw [List.getElem?_map, List.length_map, ← List.getLast?_eq_getElem?, hW]; rfl
        refine ⟨_, rfl, .inl ⟨rfl, _, SqL.of hw⟩, wl, _, _, rfl, rfl, hw, hlast, ?_⟩
        rw [strs_drop]
        have s4 : Same H (upd H2 wl (.lst (W.dropLast.map V.str))) := s3.put gwH
        have hf4 : upd H2 wl (.lst (W.dropLast.map V.str)) f = some (.dK (setD l)) := by rw [upd_ne hfw]; exact hf
        have hw4 : upd H2 wl (.lst (W.dropLast.map V.str)) wl = some (.lst (W.dropLast.map V.str)) := upd_same
        have hmu := muS_eq hf hw
        generalize upd H2 wl (.lst (W.dropLast.map V.str)) = H4 at s4 hf4 hw4 ⊢
        have hdl : W.dropLast.length = W.length - 1 := List.length_dropLast
        have hmemW : ∀ n, n ∈ W ↔ n ∈ W.dropLast ∨ n = x := fun n => by
          conv => lhs; rw [hWd]
          rw [List.mem_append, List.mem_singleton]
        refine ⟨_, rfl, _, rfl, f, _, rfl, DGet.k (k := Sum.inr x) hf4, ?_⟩
        refine ⟨_, rfl, ?_⟩
        rw [setD_some]
        by_cases hx : x ∈ l
        · rw [decide_eq_true hx]
          refine iteF ?_
          refine ⟨⟨l, W.dropLast, _, rfl, s4, hf4, hw4, hnd, hlN, fun n hn => hWN n ((hmemW n).mpr (.inl hn)), by omega, fun R h => hD R ?_⟩, ?_⟩
          · rw [hrev]; exact .old hx h
          · show muS f wl H4 < muS f wl H2
            rw [muS_eq hf4 hw4, hmu]
            omega
        · rw [decide_eq_false hx]
          refine iteT ?_
          have hxN : x ∈ ps.map (·.1) := hWN x hxW
          have hadd : addN l x = l ++ [x] := by unfold addN; rw [if_neg hx]
          have hnd' : (addN l x).Nodup := addN_nodup hnd x
          have hlN' : ∀ n ∈ addN l x, n ∈ ps.map (·.1) := fun n hn => by
            rcases (addN_mem l x n).mp hn with z | z
            · exact hlN n z
            · rw [z]; exact hxN
          have hll' := nodup_lenG _ _ hnd' hlN'
          rw [hadd, List.length_append, List.length_singleton] at hll'
          refine ⟨_, rfl, _, rfl, f, _, rfl, DPut.k (k := Sum.inr x) hf4 (small1000 (by rw [setD_len]; omega)), ?_⟩
          rw [setD_put]
          have s5 : Same H (upd H4 f (.dK (setD (addN l x)))) := s4.put gf
          have hf5 : upd H4 f (.dK (setD (addN l x))) f = some (.dK (setD (addN l x))) := upd_same
          have hw5 : upd H4 f (.dK (setD (addN l x))) wl = some (.lst (W.dropLast.map V.str)) := by rw [upd_ne hfw.symm]; exact hw4
          generalize upd H4 f (.dK (setD (addN l x))) = H5 at s5 hf5 hw5 ⊢
          obtain ⟨rs, hmem⟩ := part_of hxN
          have hr40 : rs.length ≤ 40 := hfit.rows _ hmem
          have hhi := hfit.hi
          refine ⟨_, rfl, .inl ⟨rfl, _, SqL.of hw5⟩, _, rfl, _, rfl, a, ps, x, rs, rfl, s5.partsF hpf, hfit.nd, hmem, by omega, by omega, fun p H6 s6 hp => ?_⟩
          have hk1 : namedOf "bring" rs = k1 ps x := by unfold k1; rw [rowsOf_eq hfit.nd hmem]
          rw [hk1] at hp
          have hkl : (k1 ps x).length ≤ 40 := by
            have h1 := namedOf_len "bring" rs []
            rw [← hk1]
            unfold namedOf
            simp only [List.length_nil] at h1
            omega
          refine ⟨p, _, rfl, SqT.of hp, fun c gc => ?_⟩
          rw [← List.map_reverse]
          have hw6 := s6 _ _ hw5
          have hf6 := s6 _ _ hf5
          have hwc : wl ≠ c := fun z => by rw [z, gc] at hw6; cases hw6
          have hfc : f ≠ c := fun z => by rw [z, gc] at hf6; cases hf6
          refine ⟨wl, c, _, _, rfl, rfl, upd_keep hw6 gc, upd_same, Nat.le_of_lt (by
            have : sizeLine = 16777216 := sizeLine_eq
            rw [List.length_map, List.length_map, List.length_reverse]; omega), ?_⟩
          rw [← List.map_append]
          have s7 : Same H (upd (upd H6 c (.lst ((k1 ps x).reverse.map V.str))) wl (.lst ((W.dropLast ++ (k1 ps x).reverse).map V.str))) := ((s5.trans s6).new gc).put gwH
          have hf7 : upd (upd H6 c (.lst ((k1 ps x).reverse.map V.str))) wl (.lst ((W.dropLast ++ (k1 ps x).reverse).map V.str)) f = some (.dK (setD (addN l x))) := by rw [upd_ne hfw, upd_ne hfc]; exact hf6
          refine ⟨⟨addN l x, W.dropLast ++ (k1 ps x).reverse, _, rfl, s7, hf7, upd_same, hnd', hlN', fun n hn => ?_, ?_, fun R h => hD R ?_⟩, ?_⟩
          · rcases List.mem_append.mp hn with z | z
            · exact hWN n ((hmemW n).mpr (.inl z))
            · exact hcl x hxN n (List.mem_reverse.mp z)
          · rw [hadd, List.length_append, List.length_append, List.length_singleton, List.length_reverse]; omega
          · rw [List.reverse_append, List.reverse_reverse, hadd] at h
            rw [hrev]
            exact .new hx h
          · show muS f wl _ < muS f wl H2
            rw [muS_eq hf7 upd_same, hmu, hadd, List.length_append, List.length_append, List.length_singleton, List.length_reverse]
            omega
    · rintro σ H2 Q1 Q2 hQ ⟨v, e, b, hb, hq⟩
      exact ⟨v, e, b, hb, hQ _ _ hq⟩
inductive Rc (k : Str → List Str) (r : Str) : Str → Prop where
  | base : Rc k r r
  | step {a b : Str} : Rc k r a → b ∈ k a → Rc k r b
theorem Rc.trans {k : Str → List Str} {a b c : Str} (h1 : Rc k a b) (h2 : Rc k b c) : Rc k a c := by
  induction h2 with
  | base => exact h1
  | step _ e ih => exact .step ih e
theorem Dfs.sound {k : Str → List Str} {V l R : List Str} (h : Dfs k V l R) : ∀ x ∈ R, x ∈ V ∨ ∃ y ∈ l, Rc k y x := by
  induction h with
  | nil => exact fun x hx => .inl hx
  | old _ _ ih =>
    intro x hx
    rcases ih x hx with z | ⟨y, hy, z⟩
    · exact .inl z
    · exact .inr ⟨y, List.mem_cons_of_mem _ hy, z⟩
  | new _ _ ih =>
    intro x hx
    rcases ih x hx with z | ⟨y, hy, z⟩
    · rcases List.mem_append.mp z with z | z
      · exact .inl z
      · rw [List.mem_singleton.mp z]
        exact .inr ⟨_, List.mem_cons_self, .base⟩
    · rcases List.mem_append.mp hy with w | w
      · exact .inr ⟨_, List.mem_cons_self, Rc.trans (.step .base w) z⟩
      · exact .inr ⟨y, List.mem_cons_of_mem _ w, z⟩
theorem Dfs.full {k : Str → List Str} {V l R : List Str} (h : Dfs k V l R) : (∀ x ∈ V, x ∈ R) ∧ (∀ x ∈ l, x ∈ R) ∧ ∀ x ∈ R, x ∉ V → ∀ y ∈ k x, y ∈ R := by
  induction h with
  | nil => exact ⟨fun x h => h, fun x h => by simp at h, fun x h1 h2 => absurd h1 h2⟩
  | old hm _ ih =>
    refine ⟨ih.1, fun x hx => ?_, ih.2.2⟩
    rcases List.mem_cons.mp hx with z | z
    · rw [z]; exact ih.1 _ hm
    · exact ih.2.1 x z
  | new hn _ ih =>
    refine ⟨fun x hx => ih.1 x (List.mem_append_left _ hx), fun x hx => ?_, fun x h1 h2 y hy => ?_⟩
    · rcases List.mem_cons.mp hx with z | z
      · rw [z]; exact ih.1 _ (List.mem_append_right _ (List.mem_singleton.mpr rfl))
      · exact ih.2.1 x (List.mem_append_right _ z)
    · rename_i n _
      by_cases e : x = n
      · rw [e] at hy
        exact ih.2.1 y (List.mem_append_left _ hy)
      · refine ih.2.2 x h1 (fun z => ?_) y hy
        rcases List.mem_append.mp z with w | w
        · exact h2 w
        · exact e (List.mem_singleton.mp w)
theorem Dfs.nodup {k : Str → List Str} {V l R : List Str} (h : Dfs k V l R) : V.Nodup → R.Nodup := by
  induction h with
  | nil => exact id
  | old _ _ ih => exact ih
  | new hn _ ih =>
    intro hV
    refine ih (List.nodup_append.mpr ⟨hV, by simp, fun a ha b hb z => ?_⟩)
    rw [List.mem_singleton.mp hb] at z
    exact hn (by rw [← z]; exact ha)
theorem closed_rc {k : Str → List Str} {L : List Str} {r : Str} (h0 : r ∈ L) (hc : ∀ x ∈ L, ∀ y ∈ k x, y ∈ L) {m : Str} (h : Rc k r m) : m ∈ L := by
  induction h with
  | base => exact h0
  | step _ e ih => exact hc _ ih _ e
theorem Dfs.mem {k : Str → List Str} {r : Str} {R : List Str} (h : Dfs k [] [r] R) (m : Str) : m ∈ R ↔ Rc k r m := by
  obtain ⟨_, h2, h3⟩ := h.full
  constructor
  · intro hm
    rcases h.sound m hm with z | ⟨y, hy, z⟩
    · simp at z
    · rw [List.mem_singleton.mp hy] at z; exact z
  · exact fun hm => closed_rc (h2 r (List.mem_singleton.mpr rfl)) (fun x hx => h3 x hx (by simp)) hm
theorem mem_k1 {ps : List Pt} {n m : Str} {rs : List Rw} (hn : (ps.map (·.1)).Nodup) (h : (n, rs) ∈ ps) : m ∈ k1 ps n ↔ ∃ r ∈ rs, namesIt "bring" r = some m := by
  unfold k1
  rw [rowsOf_eq hn h]
  exact mem_namedOf "bring" m rs
theorem row_br {H : Hp} {r : Addr} {rw : Rw} (h : RowAt H r rw) : (∃ m rest, namesIt "bring" rw = some m ∧ H r = some (.tup (.str "bring" :: .str m :: rest))) ∨ (¬ kindS rw = "bring" ∧ namesIt "bring" rw = none) := by
  cases rw with
  | bring p ps =>
    obtain ⟨t, h1, h2⟩ := h
    exact .inl ⟨p, _, by simp [namesIt], h1⟩
  | ask p w => exact .inr ⟨by simp only [kindS]; decide +kernel, by simp [namesIt]; decide +kernel⟩
  | _ => exact .inr ⟨by simp only [kindS]; decide +kernel, rfl⟩
noncomputable def spCome : Sp := fun vs H Q _ => ∃ (a : Addr) (ps : List Pt) (n : Str), vs = [.ref a, .str n] ∧ PartsF H a ps ∧ PsFit ps ∧ ClosedB ps ∧ n ∈ ps.map (·.1) ∧ ∀ (l : Addr) (L : List Str) (H' : Hp), Same H H' → H l = none → H' l = some (.lst (L.map V.str)) → L.length ≤ 24 → (∀ m, m ∈ L ↔ Rc (k1 ps) n m) → Q (.ref l) H'
noncomputable def muC (σ : L2.St) (_ : Hp) : Nat := match σ[4]? with
  | some (some (V.int i)) => 30 - i.toNat
  | _ => 0
theorem ok_come (T : Txt K mg) : L2.Cl P w K mg base 1 "_law_come" ["_law_parts_here", "_law_root"] spCome := by
  refine Cl.of T.d_law_come sc_law_come (fun vs H Q E h => ?_) (fun _ _ _ _ _ _ us hl => by obtain ⟨a, b, rfl⟩ := len2 hl; rfl) (fun fa cdv A outer s H vs Q E hr h => ?_)
  · obtain ⟨a, ps, n, rfl, _⟩ := h
    rfl
  · obtain ⟨a, ps, root, rfl, hpf, hfit, hcl, hroot, q⟩ := h
    have hu := hu_of hr
    have hN : (ps.map (·.1)).length ≤ 24 := by rw [List.length_map]; exact hfit.hi
    have hpl := hfit.hi
    obtain ⟨o, vs, ha, ho, hps⟩ := id hpf
    obtain ⟨qs, g1, g2, g3⟩ := parts_pairs (K := K) hps
    have hql : qs.length = ps.length := by
      have := congrArg List.length g2
      simpa using this
    refine ⟨_, (pss_cons (ps_set (i := 2) sc_law_come.nd rfl (Or.inl rfl) (pe_callTy (call_dictT rfl) (by rfl) T.n_dict boot_dict (pa_cons (pv 0) pa_nil)))
      (pss_cons (ps_set (i := 3) sc_law_come.nd rfl (Or.inl rfl) (pe_lst (pa_cons (pv 1) pa_nil)))
      (pss_cons (ps_set (i := 4) sc_law_come.nd rfl (Or.inl rfl) pe_int)
      (pss_cons (ps_while PassesOwn.never (pt_cmpR op_lt (pv 4) (pe_callB call_len_seq (by rfl) T.n_len PySem.boot_len (pa_cons (pv 3) pa_nil)) (nomark _))
        (pss_cons (ps_for PassesOwn.never rfl (pi_tup (pe_dget hu (pv 2) (pe_ix ix_list (pv 3) (pv 4) (fun _ _ => rfl)) (fun _ _ => rfl))) (pg_name (i := 5) sc_law_come.nd rfl (Or.inl rfl))
          (pss_one (ps_if (PW.pt (pw_and (pt_cmpR op_eq (pe_ix ix_tup (pv 5) pe_int (fun _ _ => rfl)) pe_str (nomark _)) (pw_and1 (pt_cmpR op_notIn_seq (pe_ix ix_tup (pv 5) pe_int (fun _ _ => rfl)) (pv 3) (by with_unfolding_all rfl)))))
            (pss_one (ps_expr (pe_bm PySem.F.plainAttrs_list PySem.F.slot_list_append PySem.F.type_list_append mt_append (pv 3) (pa_cons (pe_ix ix_tup (pv 5) pe_int (fun _ _ => rfl)) pa_nil)))) pss_nil)))
        (pss_one (ps_set (i := 4) sc_law_come.nd rfl (Or.inl rfl) (pe_op op_add (pv 4) pe_int)))))
      (pss_one (ps_ret (pv 3))))))), ?_⟩
    refine ⟨_, rfl, a, o, vs, qs, rfl, ha, ho, g1, (by omega), fun e ge => ?_⟩
    have s1 : Same H (upd H e (.dK (foldP qs []))) := (Same.refl H).new ge
    have he1 : upd H e (.dK (foldP qs [])) e = some (.dK (foldP qs [])) := upd_same
    generalize upd H e (.dK (foldP qs [])) = H1 at s1 he1 ⊢
    refine ⟨_, rfl, (by show 1 ≤ sizeLine; decide), fun l gl => ?_⟩
    have glH : H l = none := s1.free gl
    have hel : e ≠ l := fun z => by rw [← z, he1] at gl; cases gl
    have s2 : Same H (upd H1 l (.lst [.str root])) := s1.new gl
    refine to_g ?_
    refine while_by (D := _) (fun σ H2 => ∃ (L : List Str) (i : Nat) (v5 : Option V), σ = [some (.ref a), some (.str root), some (.ref e), some (.ref l), some (.int (i : Int)), v5] ∧ Same H H2 ∧ H2 e = some (.dK (foldP qs [])) ∧ H2 l = some (.lst (L.map V.str)) ∧ L.Nodup ∧ i ≤ L.length ∧ (∀ x ∈ L, x ∈ ps.map (·.1)) ∧ root ∈ L ∧ (∀ x ∈ L, Rc (k1 ps) root x) ∧ ∀ j x, j < i → L[j]? = some x → ∀ y ∈ k1 ps x, y ∈ L) muC
      ⟨[root], 0, none, rfl, s2, upd_keep he1 gl, upd_same, by simp, by simp, fun x hx => by rw [List.mem_singleton.mp hx]; exact hroot, by simp, fun x hx => by rw [List.mem_singleton.mp hx]; exact .base, fun j x hj => by omega⟩ ?_ ?_
    · rintro σ H2 ⟨L, i, v5, rfl, s3, he, hl, hnd, hiL, hLN, hrL, hRc, hcl2⟩
      have hLl := nodup_lenG L _ hnd hLN
      refine ⟨_, rfl, _, rfl, l, _, rfl, .inl (SqL.of hl), _, _, rfl, rfl, _, rfl, ?_⟩
      rw [List.length_map]
      refine ite2 (fun hlt => ?_) (fun hlt => ?_)
      · have hiL' : i < L.length := by have := of_decide_eq_true hlt; omega
        have hx : L[i]? = some L[i] := by simp [hiL']
        have hxN := hLN _ (List.getElem_mem hiL')
        obtain ⟨rs, hmem⟩ := part_of hxN
        obtain ⟨u, ws, k1', k2', k3'⟩ := g3 _ rs hmem
        have hws := s3 _ _ k2'
        have hrs := k3'.mono s3.tups
        have hwl : ws.length = rs.length := Paired.length k3'
        refine ⟨_, rfl, _, rfl, _, rfl, l, _, _, _, rfl, rfl, SqL.of hl, atI_nat (by rw [List.getElem?_map, hx]; rfl), e, .ref u, rfl, ?_, ?_⟩
        · have hg := DGet.k (k := Sum.inr L[i]) he
          rw [foldP_get qs [] L[i] (.ref u) (by rw [g2]; exact hfit.nd) (.inl k1')] at hg
          exact hg
        refine ⟨u, rfl, ⟨_, SqT.of hws⟩, for_tup (K := K) (a := u) (xs := ws) (fun t σ H3 => ∃ (L' : List Str) (v5 : Option V), σ = [some (.ref a), some (.str root), some (.ref e), some (.ref l), some (.int (i : Int)), v5] ∧ Same H H3 ∧ Tups H2 H3 ∧ H3 e = some (.dK (foldP qs [])) ∧ H3 l = some (.lst ((L ++ L').map V.str)) ∧ (L ++ L').Nodup ∧ (∀ x ∈ L ++ L', x ∈ ps.map (·.1)) ∧ (∀ x ∈ L ++ L', Rc (k1 ps) root x) ∧ ∀ r ∈ rs.take t, ∀ m, namesIt "bring" r = some m → m ∈ L ++ L')
          ⟨[], _, rfl, s3, Tups.refl H2, he, by rw [List.append_nil]; exact hl, by rw [List.append_nil]; exact hnd, by rw [List.append_nil]; exact hLN, by rw [List.append_nil]; exact hRc, by simp⟩ (fun t σ H3 _ ⟨_, _, _, _, T3, _⟩ => SqT.of (T3 _ _ hws)) ?_ ?_⟩
        · rintro t y σ H3 hy ⟨L', v5', rfl, s4, T3, he3, hl3, hnd3, hN3, hR3, hc3⟩
          obtain ⟨rw, hrw, r, er, hra⟩ := Paired.get? hrs hy
          subst er
          have hra3 := hra.mono T3
          have hLl3 := nodup_lenG _ _ hnd3 hN3
          have hrwm : rw ∈ rs := List.mem_of_getElem? hrw
          rcases row_br hra3 with ⟨m, rest, hm, hrt⟩ | ⟨hk, hm⟩
          · have z0 : atI (V.str "bring" :: V.str m :: rest) 0 = some (.str "bring") := atI_nat (j := 0) rfl
            have z1 : atI (V.str "bring" :: V.str m :: rest) 1 = some (.str m) := atI_nat (j := 1) rfl
            have hmk : m ∈ k1 ps L[i] := (mem_k1 hfit.nd hmem).mpr ⟨rw, hrwm, hm⟩
            refine ⟨_, rfl, r, _, _, _, rfl, rfl, SqT.of hrt, z0, rfl, _, rfl, iteSE ?_⟩
            refine ⟨_, rfl, r, _, _, _, rfl, rfl, SqT.of hrt, z1, _, rfl, l, _, rfl, .inl (SqL.of hl3), rfl, strs_flat _, _, rfl, ?_⟩
            rw [if_pos rfl, inV_strs]
            by_cases hin : m ∈ L ++ L'
            · rw [decide_eq_true hin]
              refine iteF ?_
              refine ⟨L', _, rfl, s4, T3, he3, hl3, hnd3, hN3, hR3, fun r hr m' hm' => ?_⟩
              rw [take_succ_get hrw] at hr
              rcases List.mem_append.mp hr with z | z
              · exact hc3 r z m' hm'
              · rw [List.mem_singleton.mp z, hm] at hm'
                cases hm'
                exact hin
            · rw [decide_eq_false hin]
              refine iteT ?_
              refine ⟨_, rfl, .inl ⟨rfl, _, SqL.of hl3⟩, _, rfl, r, _, _, _, rfl, rfl, SqT.of hrt, z1, l, _, _, rfl, rfl, hl3, small1000 (by rw [List.length_map]; omega), ?_⟩
              have T4 : Tups H3 (upd H3 l (.lst ((L ++ L').map V.str ++ [.str m]))) := Tups.lst hl3
              have hmN : m ∈ ps.map (·.1) := hcl _ hxN _ hmk
              refine ⟨L' ++ [m], _, rfl, s4.put glH, T3.trans T4, by rw [upd_ne hel]; exact he3, ?_, ?_, ?_, ?_, ?_⟩
              · rw [upd_same, ← List.append_assoc, List.map_append (l₂ := [m])]; rfl
              · rw [← List.append_assoc]
                refine List.nodup_append.mpr ⟨hnd3, by simp, fun a ha b hb z => ?_⟩
                rw [List.mem_singleton.mp hb] at z
                exact hin (by rw [← z]; exact ha)
              · intro x hx
                rw [← List.append_assoc] at hx
                rcases List.mem_append.mp hx with z | z
                · exact hN3 x z
                · rw [List.mem_singleton.mp z]; exact hmN
              · intro x hx
                rw [← List.append_assoc] at hx
                rcases List.mem_append.mp hx with z | z
                · exact hR3 x z
                · rw [List.mem_singleton.mp z]; exact .step (hRc _ (List.getElem_mem hiL')) hmk
              · intro r hr m' hm'
                rw [← List.append_assoc]
                rw [take_succ_get hrw] at hr
                rcases List.mem_append.mp hr with z | z
                · exact List.mem_append_left _ (hc3 r z m' hm')
                · rw [List.mem_singleton.mp z, hm] at hm'
                  cases hm'
                  exact List.mem_append_right _ (List.mem_singleton.mpr rfl)
          · obtain ⟨x1, rest, hrt⟩ := hra3.kind
            have z0 : atI (V.str (kindS rw) :: x1 :: rest) 0 = some (.str (kindS rw)) := atI_nat (j := 0) rfl
            refine ⟨_, rfl, r, _, _, _, rfl, rfl, SqT.of hrt, z0, rfl, _, rfl, iteSN hk (iteF ?_)⟩
            refine ⟨L', _, rfl, s4, T3, he3, hl3, hnd3, hN3, hR3, fun r hr m' hm' => ?_⟩
            rw [take_succ_get hrw] at hr
            rcases List.mem_append.mp hr with z | z
            · exact hc3 r z m' hm'
            · rw [List.mem_singleton.mp z, hm] at hm'
              cases hm'
        · rintro σ H3 ⟨L', v5', rfl, s4, T3, he3, hl3, hnd3, hN3, hR3, hc3⟩
          rw [hwl, List.take_length] at hc3
          refine ⟨_, rfl, _, _, rfl, rfl, ⟨⟨L ++ L', i + 1, _, rfl, s4, he3, hl3, hnd3, by rw [List.length_append]; omega, hN3, List.mem_append_left _ hrL, hR3, fun j x hj hx' y hy => ?_⟩, ?_⟩⟩
          · rw [List.getElem?_append_left (by omega)] at hx'
            by_cases e' : j = i
            · subst e'
              have hxe : x = L[j] := Option.some.inj (hx'.symm.trans hx)
              rw [hxe] at hy
              obtain ⟨r, hr, hm⟩ := (mem_k1 hfit.nd hmem).mp hy
              exact hc3 r hr y hm
            · exact List.mem_append_left _ (hcl2 j x (by omega) hx' y hy)
          · show (30 - ((i : Int) + 1).toNat) < 30 - ((i : Int)).toNat
            omega
      · have hiE : i = L.length := by
          have : ¬ ((i : Int) < (L.length : Int)) := fun z => hlt (decide_eq_true z)
          omega
        refine ⟨_, rfl, q l L H2 s3 glH hl (by omega) fun m => ⟨hRc m, fun hm => ?_⟩⟩
        refine closed_rc hrL (fun x hx y hy => ?_) hm
        obtain ⟨j, hj⟩ := List.getElem?_of_mem hx
        exact hcl2 j x (by have := (List.getElem?_eq_some_iff.mp hj).1; omega) hj y hy
    · rintro σ H2 Q1 Q2 hQ ⟨v, e1, v2, e2, p, xs, e3, h4, i, j, e5, e6, k, e7, h8⟩
      exact ⟨v, e1, v2, e2, p, xs, e3, h4, i, j, e5, e6, k, e7, hQ _ _ h8⟩
open Classical in
noncomputable def rcB (ps : List Pt) (n r : Str) : Bool := decide (Rc (k1 ps) r n)
open Classical in
theorem rcB_iff {ps : List Pt} {n r : Str} : rcB ps n r = true ↔ Rc (k1 ps) r n := by
  unfold rcB
  exact decide_eq_true_iff
noncomputable def bitsI : List Bool → Int
  | [] => 0
  | b :: r => (if b = true then 1 else 0) + 2 * bitsI r
theorem bitsI_pos : ∀ l : List Bool, 0 ≤ bitsI l
  | [] => Int.le_refl _
  | b :: r => by
    have := bitsI_pos r
    unfold bitsI
    split <;> omega
theorem bitsI_snoc (b : Bool) : ∀ l : List Bool, bitsI (l ++ [b]) = bitsI l + if b = true then 2 ^ l.length else 0
  | [] => by cases b <;> rfl
  | a :: r => by
    have ih := bitsI_snoc b r
    show (if a = true then (1 : Int) else 0) + 2 * bitsI (r ++ [b]) = (if a = true then 1 else 0) + 2 * bitsI r + if b = true then 2 ^ (r.length + 1) else 0
    rw [ih]
    cases b with
    | false => simp
    | true =>
      simp only [if_true]
      rw [Int.pow_succ]
      omega
theorem bitsI_mod (b : Bool) (r : List Bool) : bitsI (b :: r) % 2 = if b = true then 1 else 0 := by
  unfold bitsI
  cases b <;> simp <;> omega
theorem bitsI_div (b : Bool) (r : List Bool) : bitsI (b :: r) / 2 = bitsI r := by
  show ((if b = true then (1 : Int) else 0) + 2 * bitsI r) / 2 = bitsI r
  split <;> omega
theorem rc_in {ps : List Pt} (hcl : ClosedB ps) {r m : Str} (hr : r ∈ ps.map (·.1)) (h : Rc (k1 ps) r m) : m ∈ ps.map (·.1) := by
  induction h with
  | base => exact hr
  | step _ e ih => exact hcl _ ih _ e
theorem putK_has {kvs : List (Key × V)} {k : Key} {v y : V} (h : valV kvs k = some v) : (putK kvs k y).length = kvs.length := by
  have e : (kvs.any fun kv => decide (kv.1 = k)) = true := by rw [valV_any, h]; rfl
  unfold putK
  rw [if_pos e, List.length_map]
noncomputable def spColours : Sp := fun vs H Q _ => ∃ (a b : Addr) (ps : List Pt) (rs : List Str), vs = [.ref a, .ref b] ∧ PartsF H a ps ∧ PsFit ps ∧ ClosedB ps ∧ H b = some (.tup (rs.map V.str)) ∧ (∀ r ∈ rs, r ∈ ps.map (·.1)) ∧ ∀ (d : Addr) (kvs : List (Key × V)) (H' : Hp), Same H H' → H' d = some (.dK kvs) → (∀ n ∈ ps.map (·.1), valV kvs (Sum.inr n) = some (.int (bitsI (rs.map (rcB ps n))))) → Q (.ref d) H'
theorem ok_colours (T : Txt K mg) : L2.Cl P w K mg base 4 "colours" ["parts", "some"] spColours := by
  have C_order := ok_order (P := P) (w := w) (base := base) T
  refine Cl.of T.d_colours sc_colours (fun vs H Q E h => ?_) (fun _ _ _ _ _ _ us hl => by obtain ⟨a, b, rfl⟩ := len2 hl; rfl) (fun fa cdv A outer s H vs Q E hr h => ?_)
  · obtain ⟨a, b, ps, rs, rfl, _⟩ := h
    rfl
  · obtain ⟨a, b, ps, rs, rfl, hpf, hfit, hcl, hb, hrs, q⟩ := h
    have hu := hu_of hr
    have hpi := hfit.hi
    refine ⟨_, (pss_cons (ps_set (i := 2) sc_colours.nd rfl (Or.inl rfl) pe_dnewK)
      (pss_cons (ps_for PassesOwn.never rfl (pi_tup (pv 0)) (pg_tup rfl (pgs_cons (pg_name (i := 3) sc_colours.nd rfl (Or.inl rfl)) (pgs_cons (pg_name (i := 4) sc_colours.nd rfl (Or.inl rfl)) pgs_nil)))
        (pss_one (ps_dput hu (pv 2) (pv 3) pe_int rfl)))
      (pss_cons (ps_set (i := 5) sc_colours.nd rfl (Or.inl rfl) pe_int)
      (pss_cons (ps_for PassesOwn.never rfl (pi_tup (pv 1)) (pg_name (i := 6) sc_colours.nd rfl (Or.inl rfl))
        (pss_cons (ps_for PassesOwn.never rfl (pi_tup (pe_fn C_order hr (by rfl) (pa_cons (pv 0) (pa_cons (pv 6) pa_nil)))) (pg_name (i := 3) sc_colours.nd rfl (Or.inl rfl))
          (pss_one (ps_daug hu (pv 2) (pv 3) (pv 5) in_add (fun _ _ _ => rfl))))
        (pss_one (ps_aug (i := 5) sc_colours.nd rfl (Or.inl rfl) (pv 5) ip_add))))
      (pss_one (ps_ret (pv 2))))))), ?_⟩
    intro d gd
    have s1 : Same H (upd H d (.dK [])) := (Same.refl H).new gd
    obtain ⟨oo, ws, ha, ho, hps⟩ := id hpf
    have sqa : ∀ {H' : Hp}, Same H H' → SqT K H' a ws := fun s2 => .inl (.inr ⟨oo, s2 _ _ ha⟩)
    have hwl : ws.length = ps.length := Paired.length hps
    refine ⟨_, rfl, a, rfl, ⟨_, sqa s1⟩, for_tup (K := K) (a := a) (xs := ws) (fun i σ H2 => ∃ (kvs : List (Key × V)) (v3 v4 v5 v6 : Option V), σ = [some (.ref a), some (.ref b), some (.ref d), v3, v4, v5, v6] ∧ Same H H2 ∧ H2 d = some (.dK kvs) ∧ kvs.length ≤ i ∧ ∀ n ∈ (ps.map (·.1)).take i, valV kvs (Sum.inr n) = some (.int 0))
      ⟨[], none, none, none, none, rfl, s1, upd_same, by simp, by simp⟩ (fun i σ H2 _ ⟨_, _, _, _, _, _, s2, _⟩ => sqa s2) ?_ ?_⟩
    · rintro i y σ H2 hy ⟨kvs, v3, v4, v5, v6, rfl, s2, hd, hkl, hval⟩
      obtain ⟨pt, hpt, t, u, zs, ey, ht, hu', _⟩ := Paired.get? hps hy
      subst ey
      have hi := (List.getElem?_eq_some_iff.mp hpt).1
      refine ⟨t, _, rfl, SqT.of (s2 _ _ ht), rfl, _, _, rfl, _, _, rfl, rfl, ?_⟩
      refine ⟨_, rfl, _, rfl, d, _, rfl, DPut.k (k := Sum.inr pt.1) hd (small1000 (by omega)), ?_⟩
      refine ⟨putK kvs (Sum.inr pt.1) (.int 0), _, _, _, _, rfl, s2.put gd, upd_same, by have := length_putK kvs (Sum.inr pt.1) (.int 0); omega, fun n hn => ?_⟩
      rw [valV_put]
      by_cases e : n = pt.1
      · rw [if_pos (by rw [e])]
      · rw [if_neg (fun z => e (Sum.inr.inj z))]
        rw [take_succ_get (x := pt.1) (by rw [List.getElem?_map, hpt]; rfl)] at hn
        rcases List.mem_append.mp hn with z | z
        · exact hval n z
        · exact absurd (List.mem_singleton.mp z) e
    · rintro σ H2 ⟨kvs0, v3, v4, v5, v6, rfl, s2, hd0, hkl0, hval0⟩
      rw [hwl] at hkl0 hval0
      rw [List.take_of_length_le (by rw [List.length_map]; omega)] at hval0
      refine ⟨_, rfl, b, rfl, ⟨_, SqT.of (s2 _ _ hb)⟩, for_tup (K := K) (a := b) (xs := rs.map V.str) (fun i σ H3 => ∃ (kvs : List (Key × V)) (v3 v4 v6 : Option V), σ = [some (.ref a), some (.ref b), some (.ref d), v3, v4, some (.int (2 ^ i)), v6] ∧ Same H H3 ∧ H3 d = some (.dK kvs) ∧ kvs.length ≤ 24 ∧ ∀ n ∈ ps.map (·.1), valV kvs (Sum.inr n) = some (.int (bitsI ((rs.take i).map (rcB ps n)))))
        ⟨kvs0, _, _, _, rfl, s2, hd0, by omega, fun n hn => by rw [hval0 n hn]; rfl⟩ (fun i σ H3 _ ⟨_, _, _, _, _, s3, _⟩ => SqT.of (s3 _ _ hb)) ?_ ?_⟩
      · rintro i y σ H3 hy ⟨kvs, v3, v4, v6, rfl, s3, hd3, hkl3, hval3⟩
        obtain ⟨r, hri, rfl⟩ : ∃ r, rs[i]? = some r ∧ y = .str r := by
          rw [List.getElem?_map] at hy
          cases e : rs[i]? with
          | none => rw [e] at hy; cases hy
          | some r => rw [e] at hy; exact ⟨r, rfl, (Option.some.inj hy).symm⟩
        have hrN := hrs r (List.mem_of_getElem? hri)
        refine ⟨_, rfl, _, rfl, a, ps, r, rfl, s3.partsF hpf, hfit, hcl, hrN, fun p R H4 s4 hp hdfs => ?_⟩
        have s34 := s3.trans s4
        have hRm := hdfs.mem
        have hRnd : R.Nodup := hdfs.nodup List.nodup_nil
        refine ⟨p, rfl, ⟨_, SqT.of hp⟩, for_tup (K := K) (a := p) (xs := R.map V.str) (fun j σ H5 => ∃ (kvs : List (Key × V)) (v3 : Option V), σ = [some (.ref a), some (.ref b), some (.ref d), v3, v4, some (.int (2 ^ i)), some (.str r)] ∧ Same H H5 ∧ Tups H4 H5 ∧ H5 d = some (.dK kvs) ∧ kvs.length ≤ 24 ∧ ∀ n ∈ ps.map (·.1), valV kvs (Sum.inr n) = some (.int (bitsI ((rs.take i).map (rcB ps n)) + if n ∈ R.take j then 2 ^ i else 0)))
          ⟨kvs, _, rfl, s34, Tups.refl H4, s4 _ _ hd3, hkl3, fun n hn => by rw [hval3 n hn]; simp⟩ (fun j σ H5 _ ⟨_, _, _, _, T5, _⟩ => SqT.of (T5 _ _ hp)) ?_ ?_⟩
        · rintro j y σ H5 hy ⟨kvs5, v3', rfl, s5, T5, hd5, hkl5, hval5⟩
          obtain ⟨m, hmi, rfl⟩ : ∃ m, R[j]? = some m ∧ y = .str m := by
            rw [List.getElem?_map] at hy
            cases e : R[j]? with
            | none => rw [e] at hy; cases hy
            | some r => rw [e] at hy; exact ⟨r, rfl, (Option.some.inj hy).symm⟩
          have hmN : m ∈ ps.map (·.1) := rc_in hcl hrN ((hRm m).mp (List.mem_of_getElem? hmi))
          have hvm := hval5 m hmN
          have hmt : m ∉ R.take j := by
            intro z
            have h1 : (R.take (j + 1)).Nodup := hRnd.sublist (List.take_sublist _ _)
            rw [take_succ_get hmi] at h1
            exact (List.nodup_append.mp h1).2.2 m z m (List.mem_singleton.mpr rfl) rfl
          rw [if_neg hmt] at hvm
          refine ⟨_, rfl, _, rfl, d, _, rfl, (by have h1 := DGet.k (k := Sum.inr m) hd5; rw [hvm] at h1; exact h1), _, rfl, _, _, rfl, rfl, _, DPut.k (k := Sum.inr m) hd5 (small1000 (by omega)), ?_⟩
          refine ⟨_, _, rfl, s5.put gd, T5.trans (Tups.dK hd5), upd_same, by rw [putK_has hvm]; exact hkl5, fun n hn => ?_⟩
          rw [valV_put, take_succ_get hmi]
          by_cases e : n = m
          · subst e
            rw [if_pos rfl, if_pos (List.mem_append_right _ (List.mem_singleton.mpr rfl)), Int.add_zero]
          · rw [if_neg (fun z => e (Sum.inr.inj z)), hval5 n hn]
            have : (n ∈ R.take j ++ [m]) ↔ n ∈ R.take j := by
              rw [List.mem_append, List.mem_singleton]
              exact ⟨fun z => by rcases z with z | z; exact z; exact absurd z e, .inl⟩
            simp only [this]
        · rintro σ H5 ⟨kvs5, v3', rfl, s5, T5, hd5, hkl5, hval5⟩
          rw [List.length_map, List.take_length] at hval5
          refine ⟨_, rfl, _, rfl, _, _, rfl, rfl, ?_⟩
          refine ⟨kvs5, v3', v4, some (.str r), ?_, s5, hd5, hkl5, fun n hn => ?_⟩
          · show [some (V.ref a), some (V.ref b), some (V.ref d), v3', v4, some (V.int (2 ^ i + 2 ^ i)), some (V.str r)] = _
            rw [Int.pow_succ, show (2 : Int) ^ i * 2 = 2 ^ i + 2 ^ i by omega]
          · rw [hval5 n hn, take_succ_get hri, List.map_append]
            show _ = some (V.int (bitsI ((rs.take i).map (rcB ps n) ++ [rcB ps n r])))
            have hil := (List.getElem?_eq_some_iff.mp hri).1
            rw [bitsI_snoc, List.length_map, List.length_take, Nat.min_eq_left (by omega)]
            have : (n ∈ R) ↔ rcB ps n r = true := by rw [hRm n, rcB_iff]
            simp only [this]
      · rintro σ H3 ⟨kvs, v3, v4, v6, rfl, s3, hd3, hkl3, hval3⟩
        rw [List.length_map, List.take_length] at hval3
        exact ⟨_, rfl, q d kvs H3 s3 hd3 hval3⟩
theorem flat_len : ∀ {ps : List Pt}, (∀ pt ∈ ps, pt.2.length ≤ 40) → (ps.flatMap fun pt => pt.2.filterMap askN).length ≤ 40 * ps.length
  | [], _ => by simp
  | pt :: r, h => by
    have h1 := flat_len (ps := r) fun p hp => h p (List.mem_cons_of_mem _ hp)
    have h2 := h pt List.mem_cons_self
    have h3 : (pt.2.filterMap askN).length ≤ pt.2.length := List.length_filterMap_le _ _
    rw [List.flatMap_cons, List.length_append, List.length_cons]
    omega
theorem closedB_of {ps : List Pt} {nms : List Str} (hnm : ps.map (·.1) = nms) (hnd : nms.Nodup) (h : ∀ pt ∈ ps, ∀ r ∈ pt.2, InN nms r) : ClosedB ps := fun n hn m hm => by
  obtain ⟨rs, hmem⟩ := part_of hn
  obtain ⟨r, hr, e⟩ := (mem_k1 (by rw [hnm]; exact hnd) hmem).mp hm
  have h1 := h _ hmem r hr
  rw [hnm]
  cases r with
  | bring p ps' =>
    have : p = m := by simpa [namesIt] using e
    rw [← this]; exact h1
  | ask p w =>
    have : namesIt "bring" (.ask p w) = none := by simp [namesIt]; decide +kernel
    rw [this] at e
    cases e
  | _ => cases e
noncomputable def LsD (D : Addr) (H : Hp) (v : V) (L : List Str) : Prop := ∃ t, v = .ref t ∧ t ≠ D ∧ H t = some (.lst (L.map V.str))
theorem comp_lst {K : PySem.W.Frag} {a : Addr} {xs : List V} {g : TG} {tt : TT} {te : TE} {Q : Hp → Prop} {σ : L2.St} {H : Hp} {D : Addr} (Pv : Nat → L2.St → Hp → Prop) (h0 : Pv 0 σ (upd H D (.lst [])))
    (hl : ∀ i σ2 H2, Pv i σ2 H2 → SqL K H2 a xs)
    (hs : ∀ i x σ2 H2, xs[i]? = some x → Pv i σ2 H2 → g x σ2 H2 fun σ4 H4 => tt σ4 H4 fun b H5 =>
      if b = true then te σ4 H5 fun y H6 => ∃ ys, H6 D = some (.lst ys) ∧ ys.length < sizeLine ∧ Pv (i + 1) σ4 (upd H6 D (.lst (ys ++ [y]))) else Pv (i + 1) σ4 H5)
    (hd : ∀ σ2 H2, Pv xs.length σ2 H2 → Q H2) :
    ∃ W : Nat → Nat → L2.St → Hp → Prop, (∃ m, W 0 m σ (upd H D (.lst []))) ∧ ∀ i m σ2 H2, W i m σ2 H2 →
      ((Itl K a).stop i H2 ∧ Q H2) ∨ ((Itl K a).go i H2 ∧ ∃ N : L2.St → Hp → Prop, (∀ σ' H', N σ' H' → ∃ m', m' < m ∧ W (i + 1) m' σ' H') ∧ ∀ x H3, (Itl K a).yld i H2 x H3 → g x σ2 H3 fun σ4 H4 => tt σ4 H4 fun b H5 =>
        if b = true then te σ4 H5 fun y H6 => ∃ ys, H6 D = some (.lst ys) ∧ ys.length < sizeLine ∧ N σ4 (upd H6 D (.lst (ys ++ [y]))) else N σ4 H5) := by
  refine comp_by xs.length Pv h0 (fun i σ2 H2 hi p => ?_) fun σ2 H2 p => ⟨⟨xs, hl _ _ _ p, Nat.le_refl _⟩, hd _ _ p⟩
  have e := List.getElem?_eq_getElem hi
  refine ⟨⟨xs, _, hl _ _ _ p, e⟩, fun x H3 hy => ?_⟩
  obtain ⟨rfl, hx⟩ := hy
  exact hs i x σ2 H3 (hx xs (hl _ _ _ p)) p
noncomputable def ddS (f : Str → Int) (acc : List Int) (n : Str) : List Int := if 0 < f n ∧ f n ∉ acc then acc ++ [f n] else acc
noncomputable def dd (f : Str → Int) (l : List Str) : List Int := l.foldl (ddS f) []
theorem dd_snoc (f : Str → Int) (l : List Str) (n : Str) : dd f (l ++ [n]) = ddS f (dd f l) n := by unfold dd; rw [List.foldl_append]; rfl
theorem ddS_mem {f : Str → Int} {acc : List Int} {n : Str} {t : Int} : t ∈ ddS f acc n ↔ t ∈ acc ∨ (0 < t ∧ f n = t) := by
  unfold ddS
  by_cases h : 0 < f n ∧ f n ∉ acc
  · rw [if_pos h, List.mem_append, List.mem_singleton]
    constructor
    · rintro (z | z)
      · exact .inl z
      · exact .inr ⟨by rw [z]; exact h.1, z.symm⟩
    · rintro (z | ⟨_, z⟩)
      · exact .inl z
      · exact .inr z.symm
  · rw [if_neg h]
    constructor
    · exact .inl
    · rintro (z | ⟨z1, z2⟩)
      · exact z
      · by_cases hm : f n ∈ acc
        · rw [← z2]; exact hm
        · exact absurd ⟨by rw [z2]; exact z1, hm⟩ h
theorem dd_fold {f : Str → Int} {t : Int} : ∀ (l : List Str) (acc : List Int), t ∈ l.foldl (ddS f) acc ↔ t ∈ acc ∨ (0 < t ∧ ∃ n ∈ l, f n = t)
  | [], acc => by simp
  | a :: r, acc => by
    rw [List.foldl_cons, dd_fold r, ddS_mem]
    constructor
    · rintro ((z | ⟨z1, z2⟩) | ⟨z1, n, hn, z2⟩)
      · exact .inl z
      · exact .inr ⟨z1, a, List.mem_cons_self, z2⟩
      · exact .inr ⟨z1, n, List.mem_cons_of_mem _ hn, z2⟩
    · rintro (z | ⟨z1, n, hn, z2⟩)
      · exact .inl (.inl z)
      · rcases List.mem_cons.mp hn with z | z
        · exact .inl (.inr ⟨z1, by rw [← z]; exact z2⟩)
        · exact .inr ⟨z1, n, z, z2⟩
theorem dd_mem {f : Str → Int} {l : List Str} {t : Int} : t ∈ dd f l ↔ 0 < t ∧ ∃ n ∈ l, f n = t := by
  unfold dd
  rw [dd_fold]
  simp
theorem dd_len {f : Str → Int} : ∀ (l : List Str) (acc : List Int), (l.foldl (ddS f) acc).length ≤ acc.length + l.length
  | [], acc => by simp
  | a :: r, acc => by
    rw [List.foldl_cons]
    have h1 := dd_len (f := f) r (ddS f acc a)
    have h2 : (ddS f acc a).length ≤ acc.length + 1 := by
      unfold ddS
      split
      · rw [List.length_append]; exact Nat.le_refl _
      · omega
    rw [List.length_cons]
    omega
noncomputable def gn (f : Str → Int) (l : List Str) (t : Int) : List Str := l.filter fun m => decide (f m = t)
theorem gn_snoc (f : Str → Int) (l : List Str) (n : Str) (t : Int) : gn f (l ++ [n]) t = gn f l t ++ if f n = t then [n] else [] := by
  unfold gn
  rw [List.filter_append, List.filter_cons, List.filter_nil]
  by_cases h : f n = t
  · rw [if_pos (decide_eq_true h), if_pos h]
  · rw [if_neg (by rw [decide_eq_false h]; decide), if_neg h]
theorem gn_none {f : Str → Int} {l : List Str} {t : Int} (h : ∀ n ∈ l, f n ≠ t) : gn f l t = [] := by
  unfold gn
  rw [List.filter_eq_nil_iff]
  intro a ha
  rw [decide_eq_false (h a ha)]
  decide
noncomputable def szR (rs : List Rw) : Int := 1 + ((rs.filter fun r => !decide (kindS r = "give")).length : Int)
noncomputable def szN (ps : List Pt) (names : List Str) : Int := ((ps.filter fun pt => decide (pt.1 ∈ names)).map fun pt => szR pt.2).sum
theorem sz_names {ps : List Pt} (hnd : (ps.map (·.1)).Nodup) (f : Str → Int) (t : Int) : szN ps (gn f (ps.map (·.1)) t) = ((gn f (ps.map (·.1)) t).map fun n => szR (rowsOf ps n)).sum := by
  unfold szN
  have e1 : (ps.filter fun pt => decide (pt.1 ∈ gn f (ps.map (·.1)) t)) = ps.filter fun pt => decide (f pt.1 = t) := by
    refine List.filter_congr fun pt hpt => ?_
    rw [Bool.eq_iff_iff, decide_eq_true_iff, decide_eq_true_iff]
    unfold gn
    rw [List.mem_filter]
    constructor
    · rintro ⟨_, h⟩; exact of_decide_eq_true h
    · intro h; exact ⟨List.mem_map.mpr ⟨pt, hpt, rfl⟩, decide_eq_true h⟩
  have e2 : gn f (ps.map (·.1)) t = (ps.filter fun pt => decide (f pt.1 = t)).map (·.1) := by
    unfold gn
    rw [List.filter_map]
    rfl
  rw [e1, e2, List.map_map]
  congr 1
  refine List.map_congr_left fun pt hpt => ?_
  have hm := (List.mem_filter.mp hpt).1
  show szR pt.2 = szR (rowsOf ps pt.1)
  rw [rowsOf_eq hnd hm]
theorem comp_tup {K : PySem.W.Frag} {a : Addr} {xs : List V} {g : TG} {tt : TT} {te : TE} {Q : Hp → Prop} {σ : L2.St} {H : Hp} {D : Addr} (Pv : Nat → L2.St → Hp → Prop) (h0 : Pv 0 σ (upd H D (.lst [])))
    (hl : ∀ i σ2 H2, Pv i σ2 H2 → SqT K H2 a xs)
    (hs : ∀ i x σ2 H2, xs[i]? = some x → Pv i σ2 H2 → g x σ2 H2 fun σ4 H4 => tt σ4 H4 fun b H5 =>
      if b = true then te σ4 H5 fun y H6 => ∃ ys, H6 D = some (.lst ys) ∧ ys.length < sizeLine ∧ Pv (i + 1) σ4 (upd H6 D (.lst (ys ++ [y]))) else Pv (i + 1) σ4 H5)
    (hd : ∀ σ2 H2, Pv xs.length σ2 H2 → Q H2) :
    ∃ W : Nat → Nat → L2.St → Hp → Prop, (∃ m, W 0 m σ (upd H D (.lst []))) ∧ ∀ i m σ2 H2, W i m σ2 H2 →
      ((Itt K a).stop i H2 ∧ Q H2) ∨ ((Itt K a).go i H2 ∧ ∃ N : L2.St → Hp → Prop, (∀ σ' H', N σ' H' → ∃ m', m' < m ∧ W (i + 1) m' σ' H') ∧ ∀ x H3, (Itt K a).yld i H2 x H3 → g x σ2 H3 fun σ4 H4 => tt σ4 H4 fun b H5 =>
        if b = true then te σ4 H5 fun y H6 => ∃ ys, H6 D = some (.lst ys) ∧ ys.length < sizeLine ∧ N σ4 (upd H6 D (.lst (ys ++ [y]))) else N σ4 H5) := by
  refine comp_by xs.length Pv h0 (fun i σ2 H2 hi p => ?_) fun σ2 H2 p => ⟨⟨xs, hl _ _ _ p, Nat.le_refl _⟩, hd _ _ p⟩
  have e := List.getElem?_eq_getElem hi
  refine ⟨⟨xs, _, hl _ _ _ p, e⟩, fun x H3 hy => ?_⟩
  obtain ⟨rfl, hx⟩ := hy
  exact hs i x σ2 H3 (hx xs (hl _ _ _ p)) p
theorem row_kd {H : Hp} {r : Addr} {rw : Rw} (h : RowAt H r rw) : ∃ rest, H r = some (.tup (.str (kindS rw) :: rest)) := by
  cases rw with
  | bring p ps => obtain ⟨t, h1, _⟩ := h; exact ⟨_, h1⟩
  | give o g => exact ⟨_, h⟩
  | set o ts => obtain ⟨t, h1, _⟩ := h; exact ⟨_, h1⟩
  | take o => exact ⟨_, h⟩
  | say ts z => obtain ⟨t, h1, _⟩ := h; exact ⟨_, h1⟩
  | need ts => obtain ⟨t, h1, _⟩ := h; exact ⟨_, h1⟩
  | ask p z => exact ⟨_, h⟩
  | part p => exact ⟨_, h⟩
  | doo p => exact ⟨_, h⟩
noncomputable def ngB (r : Rw) : Bool := !decide (kindS r = "give")
theorem filt_snoc {α : Type} {p : α → Bool} {l : List α} {i : Nat} {x : α} (h : l[i]? = some x) : (l.take (i + 1)).filter p = (l.take i).filter p ++ if p x = true then [x] else [] := by
  rw [take_succ_get h, List.filter_append, List.filter_cons, List.filter_nil]
noncomputable def spSzp : Sp := fun vs H Q _ => ∃ (u : Addr) (zs : List V) (rws : List Rw), vs = [.ref u] ∧ H u = some (.tup zs) ∧ RowsAt H zs rws ∧ rws.length ≤ 40 ∧ ∀ H', Same H H' → Q (.int (szR rws)) H'
theorem ok_szp (T : Txt K mg) : L2.Cl P w K mg base 1 "size_of_part" ["rows"] spSzp := by
  refine Cl.of T.d_size_of_part sc_size_of_part (fun vs H Q E h => ?_) (fun _ _ _ _ _ _ us hl => by obtain ⟨a, rfl⟩ := len1 hl; rfl) (fun fa cdv A outer s H vs Q E hr h => ?_)
  · obtain ⟨u, zs, rws, rfl, _⟩ := h
    rfl
  · obtain ⟨u, zs, rws, rfl, hu, hrs, h40, q⟩ := h
    have hzl : zs.length = rws.length := Paired.length hrs
    refine ⟨_, (pss_one (ps_ret (pe_op op_add pe_int (pe_callB call_len_seq (by rfl) T.n_len PySem.boot_len (pa_cons (pe_comp (M := ["row"]) (ρ := [none]) (defScope s_size_of_part) ["rows"] ⟨rfl, by decide +kernel, by decide +kernel, by decide +kernel, rfl, by decide +kernel, by decide +kernel⟩ (pi_tup (pv 0)) (fun _ _ _ _ _ _ => (pg_name (i := 0) (show (["row"] : List Str).Nodup by decide +kernel) rfl (Or.inl rfl))) (fun _ _ _ _ _ _ => (pts_one (pt_cmpR op_ne (pe_ix (ix_tupK (K := K) rfl) (pv 0) pe_int (fun _ _ => rfl)) pe_str (nomark _)))) (fun _ _ _ _ _ _ => (pv 0))) pa_nil))))), ?_⟩
    refine ⟨_, rfl, u, rfl, ⟨_, SqT.of hu⟩, fun D gD => ?_⟩
    refine comp_tup (K := K) (a := u) (xs := zs) (fun i σ H2 => ∃ (v0 : Option V) (ys : List V), σ = [v0] ∧ Same H H2 ∧ H2 D = some (.lst ys) ∧ ys.length = ((rws.take i).filter ngB).length) ⟨_, [], rfl, (Same.refl H).new gD, upd_same, rfl⟩ (fun i σ H2 ⟨_, _, _, s2, _⟩ => SqT.of (s2 _ _ hu)) ?_ ?_
    · rintro i x σ H2 hx ⟨v0, ys, rfl, s2, hD, hyl⟩
      obtain ⟨rw, hrw, r, er, hra⟩ := Paired.get? hrs hx
      subst er
      obtain ⟨rest, hk⟩ := row_kd (hra.mono s2.tups)
      have hfl := List.length_filter_le ngB (rws.take i)
      rw [List.length_take] at hfl
      refine ⟨_, rfl, r, _, _, _, rfl, rfl, SqT.of hk, atI_nat (j := 0) rfl, rfl, _, rfl, ?_⟩
      have eb : (!decide (V.str (kindS rw) = V.str "give")) = ngB rw := by
        unfold ngB
        by_cases z : kindS rw = "give"
        · rw [decide_eq_true z, z]; rfl
        · rw [decide_eq_false z, decide_eq_false (fun y => z (V.str.inj y))]
      rw [eb]
      cases hb : ngB rw with
      | true =>
        refine iteT ⟨_, rfl, _, hD, small1000 (by omega), _, ys ++ [.ref r], rfl, s2.put gD, upd_same, ?_⟩
        rw [filt_snoc hrw, if_pos hb, List.length_append, List.length_append, hyl]
        rfl
      | false =>
        refine iteF ⟨_, ys, rfl, s2, hD, ?_⟩
        rw [filt_snoc hrw, if_neg (by rw [hb]; decide), List.append_nil]
        exact hyl
    · rintro σ H2 ⟨v0, ys, rfl, s2, hD, hyl⟩
      rw [hzl, List.take_of_length_le (Nat.le_refl _)] at hyl
      refine ⟨D, _, rfl, .inl (SqL.of hD), _, _, rfl, rfl, ?_⟩
      show Q (.int (1 + (ys.length : Int))) H2
      rw [hyl]
      exact q H2 s2
noncomputable def spSz : Sp := fun vs H Q _ => ∃ (a l : Addr) (ps : List Pt) (names : List Str), vs = [.ref a, .ref l] ∧ PartsF H a ps ∧ PsFit ps ∧ H l = some (.lst (names.map V.str)) ∧ ∀ H', Same H H' → Q (.int (szN ps names)) H'
theorem ok_sz (T : Txt K mg) : L2.Cl P w K mg base 2 "size_of" ["parts", "names"] spSz := by
  have C_size_of_part := ok_szp (P := P) (w := w) (base := base) T
  refine Cl.of T.d_size_of sc_size_of (fun vs H Q E h => ?_) (fun _ _ _ _ _ _ us hl => by obtain ⟨a, b, rfl⟩ := len2 hl; rfl) (fun fa cdv A outer s H vs Q E hr h => ?_)
  · obtain ⟨a, l, ps, names, rfl, _⟩ := h
    rfl
  · obtain ⟨a, l, ps, names, rfl, hpf, hfit, hl, q⟩ := h
    obtain ⟨oo, ws, ha, ho, hps⟩ := id hpf
    have sqa : ∀ {H' : Hp}, Same H H' → SqT K H' a ws := fun s2 => .inl (.inr ⟨oo, s2 _ _ ha⟩)
    have hwl : ws.length = ps.length := Paired.length hps
    have hpi := hfit.hi
    refine ⟨_, (pss_one (ps_ret (pe_callB (call_sum rfl) (by rfl) T.n_sum boot_sum (pa_cons (pe_comp (M := ["part", "rows", "names"]) (ρ := [none, none, some 1]) (defScope s_size_of) ["parts", "names"] ⟨rfl, by decide +kernel, by decide +kernel, by decide +kernel, rfl, by decide +kernel, by decide +kernel⟩ (pi_tup (pv 0)) (fun _ _ _ _ _ _ => (pg_tupK (K := K) (n := 2) rfl rfl (pgs_cons (pg_name (i := 0) (show (["part", "rows", "names"] : List Str).Nodup by decide +kernel) rfl (Or.inl rfl)) (pgs_cons (pg_name (i := 1) (show (["part", "rows", "names"] : List Str).Nodup by decide +kernel) rfl (Or.inl rfl)) pgs_nil)))) (fun _ _ _ _ _ _ => (pts_one (pt_cmpR (op_in_seqK (K := K) rfl) (pv 0) (pv 2) (by with_unfolding_all rfl)))) (fun _ _ _ _ _ _ => (pe_fn C_size_of_part hr (by rfl) (pa_cons (pv 1) pa_nil)))) pa_nil)))), ?_⟩
    refine ⟨_, rfl, a, rfl, ⟨_, sqa (Same.refl H)⟩, fun D gD => ?_⟩
    refine comp_tup (K := K) (a := a) (xs := ws) (fun i σ H2 => ∃ (v0 v1 : Option V), σ = [v0, v1, some (.ref l)] ∧ Same H H2 ∧ H2 D = some (.lst ((((ps.take i).filter fun pt => decide (pt.1 ∈ names)).map fun pt => szR pt.2).map V.int))) ⟨_, _, rfl, (Same.refl H).new gD, upd_same⟩ (fun i σ H2 ⟨_, _, _, s2, _⟩ => sqa s2) ?_ ?_
    · rintro i x σ H2 hx ⟨v0, v1, rfl, s2, hD⟩
      obtain ⟨pt, hpt, t, u, zs, ey, ht, hu', hrs⟩ := Paired.get? hps hx
      subst ey
      have h40 := hfit.rows _ (List.mem_of_getElem? hpt)
      have hi : i < ps.length := (List.getElem?_eq_some_iff.mp hpt).1
      have hfl := List.length_filter_le (fun pt : Pt => decide (pt.1 ∈ names)) (ps.take i)
      rw [List.length_take] at hfl
      refine ⟨t, _, rfl, SqT.of (s2 _ _ ht), rfl, _, _, rfl, _, _, rfl, rfl, ?_⟩
      refine ⟨_, rfl, _, rfl, l, _, rfl, .inl (SqL.of (s2 _ _ hl)), rfl, strs_flat _, _, rfl, ?_⟩
      rw [if_neg Bool.false_ne_true, inV_strs]
      cases hb : decide (pt.1 ∈ names) with
      | true =>
        refine iteT ⟨_, rfl, u, zs, pt.2, rfl, s2 _ _ hu', Paired.mapP hrs fun _ _ ⟨r, e, h⟩ => ⟨r, e, h.mono s2.tups⟩, h40, fun H3 s3 => ?_⟩
        refine ⟨_, s3 _ _ hD, small1000 (by rw [List.length_map, List.length_map]; omega), _, _, rfl, (s2.trans s3).put gD, ?_⟩
        rw [upd_same, filt_snoc hpt, if_pos hb, List.map_append, List.map_append]
        rfl
      | false =>
        refine iteF ⟨_, _, rfl, s2, ?_⟩
        rw [filt_snoc hpt, if_neg (by rw [hb]; decide), List.append_nil]
        exact hD
    · rintro σ H2 ⟨v0, v1, rfl, s2, hD⟩
      rw [hwl, List.take_of_length_le (Nat.le_refl _)] at hD
      exact ⟨D, _, rfl, SqL.of hD, q H2 s2⟩
noncomputable def MemR (f : Str → Int) (l : List Str) (H : Hp) (kv : Key × V) (t : Int) : Prop := ∃ p, kv.1 = Sum.inl t ∧ kv.2 = .ref p ∧ H p = some (.lst ((gn f l t).map V.str))
structure Mem (f : Str → Int) (l : List Str) (H : Hp) (kvs : List (Key × V)) : Prop where
  at' : Paired (MemR f l H) kvs (dd f l)
  inj : ∀ a ∈ kvs, ∀ b ∈ kvs, a.2 = b.2 → a.1 = b.1
  uniq : ∀ a ∈ kvs, ∀ b ∈ kvs, a.1 = b.1 → a = b
theorem Mem.keep {f : Str → Int} {l : List Str} {H H' : Hp} {kvs : List (Key × V)} (m : Mem f l H kvs) (k : ∀ b xs, H b = some (.lst xs) → H' b = some (.lst xs)) : Mem f l H' kvs :=
  ⟨Paired.mapP m.at' fun _ _ ⟨p, h1, h2, h3⟩ => ⟨p, h1, h2, k _ _ h3⟩, m.inj, m.uniq⟩
theorem mem_find {f : Str → Int} {l : List Str} {H : Hp} {t : Int} : ∀ {kvs : List (Key × V)} {ts : List Int}, Paired (MemR f l H) kvs ts → (t ∈ ts → ∃ p, valV kvs (Sum.inl t) = some (.ref p) ∧ (Sum.inl t, V.ref p) ∈ kvs ∧ H p = some (.lst ((gn f l t).map V.str))) ∧ (t ∉ ts → valV kvs (Sum.inl t) = none)
  | _, _, .nil => ⟨fun h => (by cases h), fun _ => rfl⟩
  | _, _, .cons (a := kv) (b := t') ⟨p, h1, h2, h3⟩ r => by
    have ih := mem_find (t := t) r
    by_cases e : t' = t
    · subst e
      refine ⟨fun _ => ⟨p, ?_, ?_, h3⟩, fun h => absurd List.mem_cons_self h⟩
      · rw [valV_pos h1, h2]
      · rw [← h1, ← h2]; exact List.mem_cons_self
    · have hk : ¬ kv.1 = Sum.inl t := fun z => e (Sum.inl.inj (h1.symm.trans z))
      refine ⟨fun h => ?_, fun h => ?_⟩
      · rcases List.mem_cons.mp h with z | z
        · exact absurd z.symm e
        · obtain ⟨p', q1, q2, q3⟩ := ih.1 z
          exact ⟨p', by rw [valV_neg hk]; exact q1, List.mem_cons_of_mem _ q2, q3⟩
      · rw [valV_neg hk]
        exact ih.2 fun z => h (List.mem_cons_of_mem _ z)
theorem Mem.add {f : Str → Int} {l : List Str} {H : Hp} {kvs : List (Key × V)} (m : Mem f l H kvs) {n : Str} (h0 : 0 < f n) (hin : f n ∈ dd f l) {p : Addr} (hp : (Sum.inl (f n), V.ref p) ∈ kvs) :
    Mem f (l ++ [n]) (upd H p (.lst ((gn f l (f n)).map V.str ++ [.str n]))) kvs := by
  refine ⟨?_, m.inj, m.uniq⟩
  rw [dd_snoc]
  unfold ddS
  rw [if_neg (fun z => z.2 hin)]
  have key : ∀ {ks : List (Key × V)} {ts : List Int}, Paired (MemR f l H) ks ts → (∀ x ∈ ks, x ∈ kvs) → Paired (MemR f (l ++ [n]) (upd H p (.lst ((gn f l (f n)).map V.str ++ [.str n])))) ks ts := by
    intro ks ts h
    induction h with
    | nil => intro _; exact .nil
    | cons hr _ ih =>
      intro hs
      refine .cons ?_ (ih fun x hx => hs x (List.mem_cons_of_mem _ hx))
      obtain ⟨q, h1, h2, h3⟩ := hr
      refine ⟨q, h1, h2, ?_⟩
      rw [gn_snoc]
      rename_i kv t _ _ _
      by_cases e : f n = t
      · rw [if_pos e]
        have hq : q = p := by
          have h5 := m.uniq _ (hs _ List.mem_cons_self) _ hp (by rw [h1, e])
          rw [h5] at h2
          exact (V.ref.inj h2).symm
        rw [hq, upd_same, ← e, List.map_append]
        rfl
      · rw [if_neg e, List.append_nil]
        have hq : q ≠ p := fun z => by
          have := m.inj _ (hs _ List.mem_cons_self) _ hp (by rw [h2, z])
          rw [h1] at this
          exact e (Sum.inl.inj this).symm
        rw [upd_ne hq]
        exact h3
  exact key m.at' fun x hx => hx
theorem Mem.new {f : Str → Int} {l : List Str} {H H' : Hp} {kvs : List (Key × V)} (m : Mem f l H kvs) {n : Str} (h0 : 0 < f n) (hin : f n ∉ dd f l) {z : Addr} (hz : H z = none) (k : ∀ b xs, H b = some (.lst xs) → H' b = some (.lst xs)) (hz' : H' z = some (.lst [.str n])) :
    Mem f (l ++ [n]) H' (kvs ++ [(Sum.inl (f n), .ref z)]) := by
  have hall : ∀ {ks : List (Key × V)} {ts : List Int}, Paired (MemR f l H) ks ts → (∀ x ∈ ks, ∃ t ∈ ts, x.1 = Sum.inl t ∧ x.2 ≠ .ref z) := by
    intro ks ts h
    induction h with
    | nil => intro x hx; cases hx
    | cons hr _ ih =>
      intro x hx
      rcases List.mem_cons.mp hx with e | e
      · obtain ⟨q, h1, h2, h3⟩ := hr
        refine ⟨_, List.mem_cons_self, by rw [e]; exact h1, fun y => ?_⟩
        rw [e, h2] at y
        rw [V.ref.inj y, hz] at h3
        cases h3
      · obtain ⟨t, ht, h⟩ := ih x e
        exact ⟨t, List.mem_cons_of_mem _ ht, h⟩
  have hal := hall m.at'
  have hgn : gn f l (f n) = [] := gn_none fun x hx e => hin (dd_mem.mpr ⟨h0, x, hx, e⟩)
  refine ⟨?_, fun a ha b hb e => ?_, fun a ha b hb e => ?_⟩
  · rw [dd_snoc]
    unfold ddS
    rw [if_pos ⟨h0, hin⟩]
    refine Paired.snoc ?_ ⟨z, rfl, rfl, ?_⟩
    · have key : ∀ {ks : List (Key × V)} {ts : List Int}, Paired (MemR f l H) ks ts → (∀ t ∈ ts, t ∈ dd f l) → Paired (MemR f (l ++ [n]) H') ks ts := by
        intro ks ts h
        induction h with
        | nil => intro _; exact .nil
        | cons hr _ ih =>
          intro hs
          refine .cons ?_ (ih fun x hx => hs x (List.mem_cons_of_mem _ hx))
          obtain ⟨q, h1, h2, h3⟩ := hr
          refine ⟨q, h1, h2, ?_⟩
          rw [gn_snoc, if_neg (fun e => hin (by rw [e]; exact hs _ List.mem_cons_self)), List.append_nil]
          exact k _ _ h3
      exact key m.at' fun t ht => ht
    · rw [gn_snoc, hgn, if_pos rfl]
      exact hz'
  · rcases List.mem_append.mp ha with za | za
    · rcases List.mem_append.mp hb with zb | zb
      · exact m.inj a za b zb e
      · obtain ⟨t, ht, h1, h2⟩ := hal a za
        rw [List.mem_singleton.mp zb] at e
        exact absurd e h2
    · rcases List.mem_append.mp hb with zb | zb
      · obtain ⟨t, ht, h1, h2⟩ := hal b zb
        rw [List.mem_singleton.mp za] at e
        exact absurd e.symm h2
      · rw [List.mem_singleton.mp za, List.mem_singleton.mp zb]
  · rcases List.mem_append.mp ha with za | za
    · rcases List.mem_append.mp hb with zb | zb
      · exact m.uniq a za b zb e
      · obtain ⟨t, ht, h1, h2⟩ := hal a za
        rw [List.mem_singleton.mp zb, h1] at e
        exact absurd ((Sum.inl.inj e) ▸ ht) hin
    · rcases List.mem_append.mp hb with zb | zb
      · obtain ⟨t, ht, h1, h2⟩ := hal b zb
        rw [List.mem_singleton.mp za, h1] at e
        exact absurd ((Sum.inl.inj e).symm ▸ ht) hin
      · rw [List.mem_singleton.mp za, List.mem_singleton.mp zb]
theorem Mem.skip {f : Str → Int} {l : List Str} {H : Hp} {kvs : List (Key × V)} (m : Mem f l H kvs) {n : Str} (h0 : ¬ 0 < f n) : Mem f (l ++ [n]) H kvs := by
  refine ⟨?_, m.inj, m.uniq⟩
  rw [dd_snoc]
  unfold ddS
  rw [if_neg (fun z => h0 z.1)]
  have key : ∀ {ks : List (Key × V)} {ts : List Int}, Paired (MemR f l H) ks ts → (∀ t ∈ ts, t ∈ dd f l) → Paired (MemR f (l ++ [n]) H) ks ts := by
    intro ks ts h
    induction h with
    | nil => intro _; exact .nil
    | cons hr _ ih =>
      intro hs
      refine .cons ?_ (ih fun x hx => hs x (List.mem_cons_of_mem _ hx))
      obtain ⟨q, h1, h2, h3⟩ := hr
      refine ⟨q, h1, h2, ?_⟩
      rw [gn_snoc, if_neg (fun e => h0 (by rw [e]; exact (dd_mem.mp (hs _ List.mem_cons_self)).1)), List.append_nil]
      exact h3
  exact key m.at' fun t ht => ht
noncomputable def GrAt (ps : List Pt) (f : Str → Int) (H : Hp) (v : V) (t : Int) : Prop := ∃ g tn, v = .ref g ∧ H g = some (.tup [.int t, .ref tn, .int (szN ps (gn f (ps.map (·.1)) t))]) ∧ H tn = some (.tup ((gn f (ps.map (·.1)) t).map V.str))
noncomputable def tintF (ps : List Pt) (rs : List Str) (n : Str) : Int := bitsI (rs.map (rcB ps n))
theorem roots_in {ps : List Pt} {bs : List Str} (h : ∀ r ∈ bs, r ∈ ps.map (·.1)) : ∀ r ∈ rootsOf ps bs, r ∈ ps.map (·.1) := fun r hr => by
  rcases List.mem_append.mp hr with z | z
  · exact h r z
  · exact (List.mem_filter.mp z).1
noncomputable def spGr : Sp := fun vs H Q _ => ∃ (a b : Addr) (ps : List Pt) (bs : List Str), vs = [.ref a, .ref b] ∧ PartsF H a ps ∧ PsFit ps ∧ ClosedB ps ∧ H b = some (.tup (bs.map V.str)) ∧ bs.length ≤ 24 ∧ (∀ r ∈ bs, r ∈ ps.map (·.1)) ∧ ∀ (g : Addr) (gs : List V) (H' : Hp), Same H H' → H' g = some (.tup gs) → Paired (GrAt ps (tintF ps (rootsOf ps bs)) H') gs (dd (tintF ps (rootsOf ps bs)) (ps.map (·.1))) → Q (.ref g) H'
theorem ok_groups (T : Txt K mg) : L2.Cl P w K mg base 5 "groups" ["parts", "beginnings"] spGr := by
  have C_roots := ok_roots (P := P) (w := w) (base := base) T
  have C_colours := ok_colours (P := P) (w := w) (base := base) T
  have C_size_of := ok_sz (P := P) (w := w) (base := base) T
  refine Cl.of T.d_groups sc_groups (fun vs H Q E h => ?_) (fun _ _ _ _ _ _ us hl => by obtain ⟨a, b, rfl⟩ := len2 hl; rfl) (fun fa cdv A outer s H vs Q E hr h => ?_)
  · obtain ⟨a, b, ps, bs, rfl, _⟩ := h
    rfl
  · obtain ⟨a, b, ps, bs, rfl, hpf, hfit, hcl, hb, hbl, hbs, q⟩ := h
    have hu := hu_of hr
    have hpi := hfit.hi
    refine ⟨_, (pss_cons (ps_set (i := 2) sc_groups.nd rfl (Or.inl rfl) (pe_fn C_colours hr (by rfl) (pa_cons (pv 0) (pa_cons (pe_fn C_roots hr (by rfl) (pa_cons (pv 0) (pa_cons (pv 1) pa_nil))) pa_nil))))
      (pss_cons (ps_set (i := 3) sc_groups.nd rfl (Or.inl rfl) pe_dnewK)
      (pss_cons (ps_for PassesOwn.never rfl (pi_tup (pv 0)) (pg_tup rfl (pgs_cons (pg_name (i := 4) sc_groups.nd rfl (Or.inl rfl)) (pgs_cons (pg_name (i := 5) sc_groups.nd rfl (Or.inl rfl)) pgs_nil)))
        (pss_one (ps_if (pt_cmpR op_gt (pe_dget hu (pv 2) (pv 4) (fun _ _ => rfl)) pe_int (nomark _))
          (pss_one (ps_expr (pe_bm PySem.F.plainAttrs_list PySem.F.slot_list_append PySem.F.type_list_append mt_append (pe_dset2 (pv 3) (pe_dget hu (pv 2) (pv 4) (fun _ _ => rfl)) (pe_lst pa_nil) ⟨rfl, rfl, rfl, rfl⟩) (pa_cons (pv 4) pa_nil)))) pss_nil)))
      (pss_one (ps_ret (pe_callTy call_tuple_of (by rfl) T.n_tuple boot_tuple (pa_cons (pe_comp (M := ["tint", "names", "parts"]) (ρ := [none, none, some 0]) (defScope s_groups) ["parts", "beginnings", "found", "members", "part", "rows"] ⟨rfl, by decide +kernel, by decide +kernel, by decide +kernel, rfl, by decide +kernel, by decide +kernel⟩ (pi_items (pv 3)) (fun _ _ _ _ _ _ => (pg_tupK (K := K) (n := 2) rfl rfl (pgs_cons (pg_name (i := 0) (show (["tint", "names", "parts"] : List Str).Nodup by decide +kernel) rfl (Or.inl rfl)) (pgs_cons (pg_name (i := 1) (show (["tint", "names", "parts"] : List Str).Nodup by decide +kernel) rfl (Or.inl rfl)) pgs_nil)))) (fun _ _ _ _ _ _ => pts_nil) (fun _ _ _ _ _ _ => (pe_tup (pa_cons (pv 0) (pa_cons (pe_callTy (call_tuple_ofK (K := K) rfl) (by rfl) T.n_tuple boot_tuple (pa_cons (pv 1) pa_nil)) (pa_cons (pe_fn C_size_of hr (by rfl) (pa_cons (pv 2) (pa_cons (pv 1) pa_nil))) pa_nil)))))) pa_nil))))))), ?_⟩
    refine ⟨_, rfl, _, rfl, _, rfl, a, b, ps, bs, rfl, hpf, hfit, hb, hbl, fun rt H1 s1 hrt => ⟨a, rt, ps, rootsOf ps bs, rfl, s1.partsF hpf, hfit, hcl, hrt, roots_in hbs, fun d kv0 H2 s2 hd hval => ?_⟩⟩
    have hval' : ∀ n ∈ ps.map (·.1), valV kv0 (Sum.inr n) = some (.int (tintF ps (rootsOf ps bs) n)) := hval
    generalize tintF ps (rootsOf ps bs) = f at q hval'
    have s12 := s1.trans s2
    intro M gM
    have u3 : Same H2 (upd H2 M (.dK [])) := (Same.refl H2).new gM
    obtain ⟨oo, ws, ha, ho, hps⟩ := id (s12.partsF hpf)
    have sqa : ∀ {H' : Hp}, Same H2 H' → SqT K H' a ws := fun s2 => .inl (.inr ⟨oo, s2 _ _ ha⟩)
    have hwl : ws.length = ps.length := Paired.length hps
    have hMd : M ≠ d := fun z => by rw [z, hd] at gM; cases gM
    refine ⟨_, rfl, a, rfl, ⟨_, sqa u3⟩, for_tup (K := K) (a := a) (xs := ws) (fun i σ H3 => ∃ (kvs : List (Key × V)) (v4 v5 : Option V), σ = [some (.ref a), some (.ref b), some (.ref d), some (.ref M), v4, v5] ∧ Same H2 H3 ∧ H3 M = some (.dK kvs) ∧ kvs.length ≤ i ∧ Mem f ((ps.map (·.1)).take i) H3 kvs ∧ ∀ kv ∈ kvs, ∃ p, kv.2 = .ref p ∧ H2 p = none)
      ⟨[], none, none, rfl, u3, upd_same, Nat.le_refl _, ⟨.nil, by simp, by simp⟩, by simp⟩ (fun i σ H3 _ ⟨_, _, _, _, s3, _⟩ => sqa s3) ?_ ?_⟩
    · rintro i y σ H3 hy ⟨kvs, v4, v5, rfl, s3, hM3, hkl, hmem, hfr⟩
      obtain ⟨pt, hpt, t, u, zs, ey, ht, hu', _⟩ := Paired.get? hps hy
      subst ey
      have hi := (List.getElem?_eq_some_iff.mp hpt).1
      have hnm : (ps.map (·.1))[i]? = some pt.1 := by rw [List.getElem?_map, hpt]; rfl
      have hmn : pt.1 ∈ ps.map (·.1) := List.mem_of_getElem? hnm
      have hdv := hval' _ hmn
      refine ⟨t, _, rfl, SqT.of (s3 _ _ ht), rfl, _, _, rfl, _, _, rfl, rfl, ?_⟩
      refine ⟨_, rfl, _, rfl, d, _, rfl, (hdv ▸ DGet.k (k := Sum.inr pt.1) (s3 _ _ hd)), _, _, rfl, rfl, _, rfl, ite2 (fun hc => ?_) (fun hc => ?_)⟩
      · have h0 : 0 < f pt.1 := of_decide_eq_true hc
        refine ⟨_, rfl, M, rfl, .inl ⟨_, Rd.of hM3⟩, _, rfl, _, rfl, d, _, rfl, (hdv ▸ DGet.k (k := Sum.inr pt.1) (s3 _ _ hd)), (by show 0 ≤ sizeLine; decide), fun z gz => ?_⟩
        have hM4 := upd_keep (o := .lst []) hM3 gz
        have u4 : Same H3 (upd H3 z (.lst [])) := (Same.refl H3).new gz
        have hz4 : upd H3 z (.lst []) z = some (.lst []) := upd_same
        have s4 := s3.trans u4
        have gz2 : H2 z = none := s3.free gz
        have hzM : z ≠ M := fun e => by rw [e, hM3] at gz; cases gz
        have mem4 := hmem.keep (H' := upd H3 z (.lst [])) fun b xs e => u4 _ _ e
        generalize upd H3 z (.lst []) = H4 at hM4 u4 hz4 s4 mem4 ⊢
        refine ⟨kvs, Sum.inl (f pt.1), hM4, rfl, small1000 (by omega), fun v hv => ?_, fun hv => ?_⟩
        · have hin : f pt.1 ∈ dd f ((ps.map (·.1)).take i) := by
            by_cases z : f pt.1 ∈ dd f ((ps.map (·.1)).take i)
            · exact z
            · rw [(mem_find hmem.at').2 z] at hv; cases hv
          obtain ⟨p, hp1, hp2, hp3⟩ := (mem_find mem4.at').1 hin
          rw [hp1] at hv
          cases hv
          obtain ⟨p', e', gp⟩ := hfr _ hp2
          cases e'
          have hgl : (gn f ((ps.map (·.1)).take i) (f pt.1)).length ≤ 24 := by
            have h1 := List.length_filter_le (fun m => decide (f m = f pt.1)) ((ps.map (·.1)).take i)
            rw [List.length_take, List.length_map] at h1
            unfold gn
            omega
          have hpM : p ≠ M := fun e => by rw [e, hM4] at hp3; cases hp3
          refine ⟨.inl ⟨rfl, _, SqL.of hp3⟩, _, rfl, p, _, _, rfl, rfl, hp3, small1000 (by rw [List.length_map]; omega), ?_⟩
          refine ⟨kvs, _, _, rfl, s4.put gp, by rw [upd_ne hpM.symm]; exact hM4, by omega, ?_, hfr⟩
          rw [take_succ_get hnm]
          exact mem4.add h0 hin hp2
        · have hin : f pt.1 ∉ dd f ((ps.map (·.1)).take i) := fun z => by
            obtain ⟨p, hp1, _⟩ := (mem_find hmem.at').1 z
            rw [hp1] at hv; cases hv
          have hz5 : upd H4 M (.dK (putK kvs (Sum.inl (f pt.1)) (.ref z))) z = some (.lst []) := by rw [upd_ne hzM]; exact hz4
          rw [putK_new _ hv] at hz5 ⊢
          refine ⟨.inl ⟨rfl, _, SqL.of hz5⟩, _, rfl, z, _, _, rfl, rfl, hz5, small1000 (by show 0 ≤ 1000; decide), ?_⟩
          refine ⟨kvs ++ [(Sum.inl (f pt.1), .ref z)], _, _, rfl, (s4.put gM).put gz2, by rw [upd_ne hzM.symm, upd_same], by rw [List.length_append]; show kvs.length + 1 ≤ _; omega, ?_, fun kv hkv => ?_⟩
          · rw [take_succ_get hnm]
            refine hmem.new h0 hin gz (fun b xs e => ?_) upd_same
            rw [upd_ne (fun y => by rw [y, gz] at e; cases e), upd_ne (fun y => by rw [y, hM3] at e; cases e)]
            exact u4 _ _ e
          · rcases List.mem_append.mp hkv with y | y
            · exact hfr kv y
            · rw [List.mem_singleton.mp y]; exact ⟨z, rfl, gz2⟩
      · have h0 : ¬ 0 < f pt.1 := fun z => hc (decide_eq_true z)
        refine ⟨kvs, _, _, rfl, s3, hM3, by omega, ?_, hfr⟩
        rw [take_succ_get hnm]
        exact hmem.skip h0
    · rintro σ H3 ⟨kvs, v4, v5, rfl, s3, hM3, hkl, hmem, hfr⟩
      rw [hwl] at hkl hmem
      rw [List.take_of_length_le (by rw [List.length_map]; exact Nat.le_refl _)] at hmem
      refine ⟨_, rfl, M, kvs, rfl, hM3, fun ob D gD => ?_⟩
      have s4 : Same H2 (upd H3 M (.frz ob (.dK kvs))) := s3.put gM
      have hM4 : upd H3 M (.frz ob (.dK kvs)) M = some (.frz ob (.dK kvs)) := upd_same
      have mem4 : Mem f (ps.map (·.1)) (upd H3 M (.frz ob (.dK kvs))) kvs := hmem.keep fun b xs e => by rw [upd_ne (fun y => by rw [y, hM3] at e; cases e)]; exact e
      generalize upd H3 M (.frz ob (.dK kvs)) = H4 at s4 hM4 mem4 gD ⊢
      refine comp_items (d := M) (o := ob) (u := .dK kvs) (kvs := kvs) (fun i σ H5 => ∃ (v0 v1 : Option V) (gs : List V), σ = [v0, v1, some (.ref a)] ∧ Same H4 H5 ∧ H5 D = some (.lst gs) ∧ Paired (GrAt ps f H5) gs ((dd f (ps.map (·.1))).take i)) ⟨_, _, [], rfl, (Same.refl H4).new gD, upd_same, .nil⟩ (fun i σ H5 ⟨_, _, _, _, s5, _⟩ => s5 _ _ hM4) ?_ ?_
      · rintro i kv p0 σ H5 hkv ⟨v0, v1, gs, rfl, s5, hD5, hgs⟩ gp0
        obtain ⟨t, ht, p, e1, e2, hp⟩ := Paired.get? mem4.at' hkv
        obtain ⟨kk, kv2⟩ := kv
        cases e1
        cases e2
        have hi := (List.getElem?_eq_some_iff.mp hkv).1
        have hgl : gs.length ≤ 24 := by
          have h1 := Paired.length hgs
          rw [List.length_take] at h1
          omega
        have s6 : Same H4 (upd H5 p0 (.tup [.int t, .ref p])) := s5.new gp0
        have hp0 : upd H5 p0 (.tup [.int t, .ref p]) p0 = some (.tup [.int t, .ref p]) := upd_same
        have hD6 := upd_keep (o := .tup [.int t, .ref p]) hD5 gp0
        have hgs6 : Paired (GrAt ps f (upd H5 p0 (.tup [.int t, .ref p]))) gs ((dd f (ps.map (·.1))).take i) := Paired.mapP hgs fun _ _ ⟨g, tn, h1, h2, h3⟩ => ⟨g, tn, h1, upd_keep h2 gp0, upd_keep h3 gp0⟩
        rw [show (HO.tup [kV ((Sum.inl t, V.ref p) : Key × V).1, ((Sum.inl t, V.ref p) : Key × V).2]) = .tup [.int t, .ref p] from rfl]
        generalize upd H5 p0 (.tup [.int t, .ref p]) = H6 at s6 hp0 hD6 hgs6 ⊢
        refine ⟨p0, _, rfl, SqT.of hp0, rfl, _, _, rfl, _, _, rfl, rfl, ?_⟩
        refine ⟨_, rfl, _, rfl, p, _, rfl, .inl ⟨SqL.of (s6 _ _ hp), fun tn gtn => ?_⟩⟩
        have u7 : Same H6 (upd H6 tn (.tup ((gn f (ps.map (·.1)) t).map V.str))) := (Same.refl H6).new gtn
        have htn7 : upd H6 tn (.tup ((gn f (ps.map (·.1)) t).map V.str)) tn = some (.tup ((gn f (ps.map (·.1)) t).map V.str)) := upd_same
        generalize upd H6 tn (.tup ((gn f (ps.map (·.1)) t).map V.str)) = H7 at u7 htn7 ⊢
        have s47 := s6.trans u7
        refine ⟨_, rfl, _, rfl, a, p, ps, gn f (ps.map (·.1)) t, rfl, ((s12.trans s4).trans s47).partsF hpf, hfit, s47 _ _ hp, fun H8 s8 => ?_⟩
        refine ⟨(by show 3 ≤ sizeLine; decide), fun g gg => ?_⟩
        have u68 := u7.trans s8
        have hD9 := upd_keep (o := .tup [.int t, .ref tn, .int (szN ps (gn f (ps.map (·.1)) t))]) (u68 _ _ hD6) gg
        have tt : Tups H6 (upd (upd H8 g (.tup [.int t, .ref tn, .int (szN ps (gn f (ps.map (·.1)) t))])) D (.lst (gs ++ [.ref g]))) := (u68.new gg).tups.trans (Tups.lst hD9)
        refine ⟨gs, hD9, small1000 (by omega), _, _, gs ++ [.ref g], rfl, ((s47.trans s8).new gg).put gD, upd_same, ?_⟩
        rw [take_succ_get ht]
        refine Paired.snoc (Paired.mapP hgs6 fun _ _ ⟨g', tn', h1, h2, h3⟩ => ⟨g', tn', h1, tt _ _ h2, tt _ _ h3⟩) ⟨g, tn, rfl, Tups.lst hD9 _ _ upd_same, Tups.lst hD9 _ _ (upd_keep (s8 _ _ htn7) gg)⟩
      · rintro σ H5 ⟨v0, v1, gs, rfl, s5, hD5, hgs⟩
        rw [show kvs.length = (dd f (ps.map (·.1))).length from Paired.length mem4.at', List.take_of_length_le (Nat.le_refl _)] at hgs
        refine ⟨D, gs, rfl, .inl ⟨SqL.of hD5, fun g gg => ?_⟩⟩
        exact q g gs _ (((s12.trans s4).trans s5).new gg) upd_same (Paired.mapP hgs fun _ _ ⟨g', tn, h1, h2, h3⟩ => ⟨g', tn, h1, upd_keep h2 gg, upd_keep h3 gg⟩)
noncomputable def One24 (y : V) : Prop := ∃ n : Int, y = .int n ∧ 1 ≤ n ∧ n ≤ 24
theorem bits_rc {ps : List Pt} {n : Str} {rs : List Str} {Ls : List (List Str)} (h : Paired (fun r L => ∀ m, m ∈ L ↔ Rc (k1 ps) r m) rs Ls) : bitsI (Ls.map fun L => decide (n ∈ L)) = tintF ps rs n := by
  unfold tintF
  congr 1
  induction h with
  | nil => rfl
  | cons hr _ ih =>
    rw [List.map_cons, List.map_cons, ih]
    congr 1
    rw [Bool.eq_iff_iff, decide_eq_true_iff, rcB_iff]
    exact hr n
theorem pe_globS {X : Cx} {x : Str} {v : V} {pos : Pos} (h : ∃ u, X.mg x = some u ∧ RelV v u) (hg : Gl X x) (hd : (x == ("__debug__" : Str)) = false := by decide) : PE X (.Name x pos) (tC v) := by
  obtain ⟨u, hm, r⟩ := h
  exact pe_glob hg hm r hd
noncomputable def natsV (l : List Nat) : List V := l.map fun (m : Nat) => V.int (m : Int)
theorem natsV_snoc (l : List Nat) (m : Nat) : natsV (l ++ [m]) = natsV l ++ [.int (m : Int)] := by unfold natsV; simp
theorem natsV_len (l : List Nat) : (natsV l).length = l.length := by unfold natsV; simp
theorem bitOr_nat (a b : Nat) : Builtin.bitOr (a : Int) (b : Int) = ((a ||| b : Nat) : Int) := by
  have n1 : ¬ (0 : Int) ≤ Builtin.bitNot (a : Int) := by unfold Builtin.bitNot; omega
  have n2 : ¬ (0 : Int) ≤ Builtin.bitNot (b : Int) := by unfold Builtin.bitNot; omega
  have inv : ∀ x : Int, Builtin.bitNot (Builtin.bitNot x) = x := fun x => by unfold Builtin.bitNot; omega
  show Builtin.bitNot (Builtin.bitAnd (Builtin.bitNot (a : Int)) (Builtin.bitNot (b : Int))) = _
  rw [bitAnd_nn n1 n2, inv, inv, inv, Int.toNat_natCast, Int.toNat_natCast]
noncomputable def tTru (K : PySem.W.Frag) (ta : TE) : TT := fun σ H Q => ta σ H fun x H' => ∃ k, TruV K x H' k ∧ Q k H'
theorem pt_truthK {X : Cx} {K : PySem.W.Frag} (hK : X.K = K) {a : Expr} {ta : TE} (ha : PE X a ta) (he : ∀ whole, isTrue a X.env whole = (do let v ← whole; standAt a.pos; holding [v] (truthy v))) :
    PT X a (tTru K ta) := by
  subst hK
  exact pt_truth ha he
theorem tb (c a : Nat) : (Builtin.bitAnd ((c : Int) / 2 ^ ((a : Nat) : Int).toNat) 1 != 0) = c.testBit a := by
  have e : (c : Int) / 2 ^ ((a : Nat) : Int).toNat = ((c / 2 ^ a : Nat) : Int) := by
    rw [Int.toNat_natCast]
    simp
  rw [e, bitAnd_pp (Int.natCast_nonneg _) (by decide), Int.toNat_natCast, Nat.testBit_eq_decide_div_mod_eq]
  have e2 : (1 : Int).toNat = 1 := rfl
  rw [e2, Nat.and_one_is_mod, Bool.eq_iff_iff, decide_eq_true_iff]
  rw [bne_iff_ne]
  omega
noncomputable def onesN (n : Nat) : Nat := if h : n = 0 then 0 else n % 2 + onesN (n / 2)
termination_by n
decreasing_by exact Nat.div_lt_self (by omega) (by decide)
theorem ones_0 : onesN 0 = 0 := by rw [onesN, dif_pos rfl]
theorem ones_p {n : Nat} (h : n ≠ 0) : onesN n = n % 2 + onesN (n / 2) := by rw [onesN, dif_neg h]
theorem ones_all (n : Nat) : onesN n = n % 2 + onesN (n / 2) := by
  by_cases h : n = 0
  · subst h
    rw [show (0 : Nat) / 2 = 0 from rfl, ones_0]
  · exact ones_p h
theorem count_bits : ∀ (n c : Nat), c < 2 ^ n → ((List.range n).filter fun i => c.testBit i).length = onesN c
  | 0, c, h => by
    have : c = 0 := by simpa using h
    subst this
    rw [ones_0]
    rfl
  | n + 1, c, h => by
    have ih := count_bits n (c / 2) (by rw [Nat.pow_succ] at h; omega)
    rw [ones_all c, ← ih, List.range_succ_eq_map, List.filter_cons]
    have e : (((List.range n).map Nat.succ).filter fun i => c.testBit i).length = ((List.range n).filter fun i => (c / 2).testBit i).length := by
      rw [List.filter_map, List.length_map]
      congr 1
      refine List.filter_congr fun i _ => ?_
      show c.testBit (i + 1) = _
      rw [Nat.testBit_succ]
    have e0 : c.testBit 0 = decide (c % 2 = 1) := Nat.testBit_zero c
    rw [e0]
    by_cases h1 : c % 2 = 1
    · rw [if_pos (decide_eq_true h1), List.length_cons, e, h1]
      omega
    · rw [if_neg (by simp [h1]), e]
      omega
theorem bits_lt (c : Nat) : c < 2 ^ (Builtin.Int.intBits (c : Int)) := by
  have := (PySem.intBits_le_iff (m := Builtin.Int.intBits (c : Int)) (x := (c : Int))).mp (Nat.le_refl _)
  simpa using this
theorem bits_few {c : Nat} (h : c < 2 ^ 24) : Builtin.Int.intBits (c : Int) ≤ 24 := (PySem.intBits_le_iff (m := 24) (x := (c : Int))).mpr (by simpa using h)
noncomputable def spIn : Sp := fun vs H Q _ => ∃ c : Nat, vs = [.int (c : Int)] ∧ c < 2 ^ 24 ∧ ∀ (p : Addr) (ys : List V) (H' : Hp), Same H H' → H' p = some (.tup ys) → ys.length = onesN c → ys.length ≤ 24 → Q (.ref p) H'
theorem ok_in (T : Txt K mg) : L2.Cl P w K mg base 1 "numbers_in" ["whole"] spIn := by
  refine Cl.of T.d_numbers_in sc_numbers_in (fun vs H Q E h => ?_) (fun _ _ _ _ _ _ us hl => by obtain ⟨a, rfl⟩ := len1 hl; rfl) (fun f cdv A outer s H vs Q E hr h => ?_)
  · obtain ⟨c, rfl, _⟩ := h
    rfl
  · obtain ⟨c, rfl, hc, q⟩ := h
    have hb := bits_few hc
    have hlt := bits_lt c
    refine ⟨_, (pss_one (ps_ret (pe_callTy call_tuple_of (by rfl) T.n_tuple boot_tuple (pa_cons (pe_comp (M := ["number", "whole"]) (ρ := [none, some 0]) (defScope s_numbers_in) ["whole"] ⟨rfl, by decide +kernel, by decide +kernel, by decide +kernel, rfl, by decide +kernel, by decide +kernel⟩ (pi_range1 (by rfl) T.n_range (pa_cons (pe_bm0 PySem.F.plainAttrs_int PySem.F.slot_int_bit_length PySem.F.type_int_bit_length mt_bit_length (pv 0)) pa_nil)) (fun _ _ _ _ _ _ => (pg_name (i := 0) (show (["number", "whole"] : List Str).Nodup by decide +kernel) rfl (Or.inl rfl))) (fun _ _ _ _ _ _ => (pts_one (pt_truthK (K := K) rfl (pe_op op_and (pe_op op_shr (pv 1) (pv 0)) pe_int) (fun _ => rfl)))) (fun _ _ _ _ _ _ => (pv 0))) pa_nil)))), ?_⟩
    refine ⟨_, rfl, rfl, _, rfl, rfl, _, rfl, by omega, by omega, fun D gD => ?_⟩
    generalize Builtin.Int.intBits (c : Int) = n at hb hlt ⊢
    rw [Int.toNat_natCast]
    refine comp_by n (fun i σ H2 => ∃ (v0 : Option V) (ys : List V), σ = [v0, some (.int (c : Int))] ∧ Same H H2 ∧ H2 D = some (.lst ys) ∧ ys.length = ((List.range i).filter fun j => c.testBit j).length) ⟨_, [], rfl, (Same.refl H).new gD, upd_same, rfl⟩ ?_ ?_
    · rintro i σ H2 hi ⟨v0, ys, rfl, s2, hD2, hy⟩
      have hyl : ys.length ≤ 24 := by
        have := List.length_filter_le (fun j => c.testBit j) (List.range i)
        rw [List.length_range] at this
        omega
      refine ⟨hi, ?_⟩
      rintro x H3 ⟨rfl, rfl⟩
      have hsn : ((List.range (i + 1)).filter fun j => c.testBit j) = ((List.range i).filter fun j => c.testBit j) ++ if c.testBit i = true then [i] else [] := by
        rw [List.range_succ, List.filter_append]
        by_cases e : c.testBit i = true
        · rw [if_pos e, List.filter_cons_of_pos e]; rfl
        · rw [if_neg e, List.filter_cons_of_neg e]; rfl
      refine ⟨_, rfl, _, rfl, _, _, rfl, rfl, (by show 0 ≤ 0 + (i : Int); omega), _, _, rfl, rfl, _, rfl, ?_⟩
      rw [Int.zero_add, tb]
      refine ite2 (fun e => ?_) (fun e => ?_)
      · refine ⟨_, rfl, ys, hD2, small1000 (by omega), _, ys ++ [.int (i : Int)], rfl, s2.put gD, upd_same, ?_⟩
        rw [hsn, if_pos e, List.length_append, List.length_append, hy]
        rfl
      · refine ⟨_, ys, rfl, s2, hD2, ?_⟩
        rw [hsn, if_neg e, List.append_nil]
        exact hy
    · rintro σ H2 ⟨v0, ys, rfl, s2, hD2, hy⟩
      refine ⟨Nat.le_refl _, ?_⟩
      rw [count_bits n c hlt] at hy
      refine ⟨D, _, rfl, .inl ⟨SqL.of hD2, fun p gp => ?_⟩⟩
      refine q p ys _ (s2.new gp) upd_same hy ?_
      have h1 := count_bits n c hlt
      have h2 := List.length_filter_le (fun j => c.testBit j) (List.range n)
      rw [List.length_range] at h2
      omega
noncomputable abbrev Gp := Nat × Int
noncomputable def GAt (H : Hp) (v : V) (g : Gp) : Prop := ∃ t u, v = .ref t ∧ H t = some (.tup [.int (g.1 : Int), u, .int g.2])
noncomputable def PAt (H : Hp) (v : V) (ks : List Nat) : Prop := ∃ t, v = .ref t ∧ H t = some (.tup (natsV ks))
noncomputable def gpAt (gs : List Gp) (k : Nat) : Gp := gs.getD k (0, 0)
noncomputable def oned (gs : List Gp) (ks : List Nat) : Nat := ks.foldl (fun c k => c ||| (gpAt gs k).1) 0
noncomputable def load (gs : List Gp) (t : Int) (ks : List Nat) : Int := ks.foldl (fun c k => c + (gpAt gs k).2) t
theorem oned_snoc (gs : List Gp) (ks : List Nat) (k : Nat) : oned gs (ks ++ [k]) = oned gs ks ||| (gpAt gs k).1 := by unfold oned; rw [List.foldl_append]; rfl
theorem load_snoc (gs : List Gp) (t : Int) (ks : List Nat) (k : Nat) : load gs t (ks ++ [k]) = load gs t ks + (gpAt gs k).2 := by unfold load; rw [List.foldl_append]; rfl
structure GsOk (gs : List Gp) : Prop where
  lt : ∀ g ∈ gs, g.1 < 2 ^ 24
theorem gpAt_lt {gs : List Gp} (h : GsOk gs) (k : Nat) : (gpAt gs k).1 < 2 ^ 24 := by
  unfold gpAt
  by_cases hk : k < gs.length
  · have : gs.getD k (0, 0) = gs[k] := by simp [List.getD, hk]
    rw [this]
    exact h.lt _ (List.getElem_mem hk)
  · have : gs.getD k (0, 0) = (0, 0) := by rw [List.getD_eq_getElem?_getD, List.getElem?_eq_none (Nat.le_of_not_lt hk)]; rfl
    rw [this]
    decide
theorem oned_lt {gs : List Gp} (h : GsOk gs) (ks : List Nat) : oned gs ks < 2 ^ 24 := by
  unfold oned
  have : ∀ (ks : List Nat) (c : Nat), c < 2 ^ 24 → ks.foldl (fun c k => c ||| (gpAt gs k).1) c < 2 ^ 24 := by
    intro ks
    induction ks with
    | nil => intro c hc; exact hc
    | cons k r ih => intro c hc; exact ih _ (Nat.or_lt_two_pow hc (gpAt_lt h k))
  exact this ks 0 (by decide)
theorem gp_get {H : Hp} {vs : List V} {gs : List Gp} (hp : Paired (GAt H) vs gs) {k : Nat} (hk : k < gs.length) : ∃ t u, atI vs (k : Int) = some (.ref t) ∧ H t = some (.tup [.int ((gpAt gs k).1 : Int), u, .int (gpAt gs k).2]) := by
  have hg : gs[k]? = some gs[k] := by simp [hk]
  obtain ⟨v, hv, t, u, e, ht⟩ := Paired.get?' hp hg
  have : gpAt gs k = gs[k] := by unfold gpAt; simp [List.getD, hk]
  rw [this]
  subst e
  exact ⟨t, u, atI_nat hv, ht⟩
theorem natsV_get {ks : List Nat} {i : Nat} {y : V} (h : (natsV ks)[i]? = some y) : ∃ k, ks[i]? = some k ∧ y = .int (k : Int) := by
  unfold natsV at h
  rw [List.getElem?_map] at h
  cases e : ks[i]? with
  | none => rw [e] at h; cases h
  | some k => rw [e] at h; exact ⟨k, rfl, (Option.some.inj h).symm⟩
noncomputable def packP (gs : List Gp) (t : Int) (ks : List Nat) : Int := (onesN (oned gs ks) : Int) * load gs t ks
noncomputable def spPackP : Sp := fun vs H Q _ => ∃ (a b : Addr) (us : List V) (gs : List Gp) (t : Int) (ks : List Nat), vs = [.ref a, .int t, .ref b] ∧ H a = some (.tup us) ∧ Paired (GAt H) us gs ∧ GsOk gs ∧ H b = some (.tup (natsV ks)) ∧ (∀ k ∈ ks, k < gs.length) ∧ ∀ H', Same H H' → Q (.int (packP gs t ks)) H'
theorem ok_packP (T : Txt K mg) : L2.Cl P w K mg base 2 "pack_price" ["groups", "toll", "pack"] spPackP := by
  have C_numbers_in := ok_in (P := P) (w := w) (base := base) T
  refine Cl.of T.d_pack_price sc_pack_price (fun vs H Q E h => ?_) (fun _ _ _ _ _ _ us hl => by obtain ⟨a, b, c, rfl⟩ := len3 hl; rfl) (fun f cdv A outer s H vs Q E hr h => ?_)
  · obtain ⟨a, b, us, gs, t, ks, rfl, _⟩ := h
    rfl
  · obtain ⟨a, b, us, gs, t, ks, rfl, ha, hus, hok, hb, hks, q⟩ := h
    refine ⟨_, (pss_cons (ps_set (i := 3) sc_pack_price.nd rfl (Or.inl rfl) pe_int)
      (pss_cons (ps_set (i := 4) sc_pack_price.nd rfl (Or.inl rfl) (pv 1))
      (pss_cons (ps_for PassesOwn.never rfl (pi_tup (pv 2)) (pg_name (i := 5) sc_pack_price.nd rfl (Or.inl rfl))
        (pss_cons (ps_aug (i := 3) sc_pack_price.nd rfl (Or.inl rfl) (pe_ix ix_tup (pe_ix ix_tup (pv 0) (pv 5) (fun _ _ => rfl)) pe_int (fun _ _ => rfl)) ip_or)
        (pss_one (ps_aug (i := 4) sc_pack_price.nd rfl (Or.inl rfl) (pe_ix ix_tup (pe_ix ix_tup (pv 0) (pv 5) (fun _ _ => rfl)) pe_int (fun _ _ => rfl)) ip_add))))
      (pss_one (ps_ret (pe_op op_mul (pe_callB call_len_seq (by rfl) T.n_len PySem.boot_len (pa_cons (pe_fn C_numbers_in hr (by rfl) (pa_cons (pv 3) pa_nil)) pa_nil)) (pv 4))))))), ?_⟩
    refine ⟨_, rfl, ?_⟩
    refine ⟨_, rfl, b, rfl, ⟨_, SqT.of hb⟩, for_tup (K := K) (a := b) (xs := natsV ks) (fun i σ H2 => H2 = H ∧ ∃ v5 : Option V, σ = [some (.ref a), some (.int t), some (.ref b), some (.int (oned gs (ks.take i) : Int)), some (.int (load gs t (ks.take i))), v5])
      ⟨rfl, none, rfl⟩ (fun i σ H2 _ ⟨e, _⟩ => by rw [e]; exact SqT.of hb) ?_ ?_⟩
    · rintro i y σ H2 hy ⟨rfl, v5, rfl⟩
      obtain ⟨k, hk, rfl⟩ := natsV_get hy
      obtain ⟨tt, u, hat, htt⟩ := gp_get hus (hks k (List.mem_of_getElem? hk))
      have z0 : atI [V.int ((gpAt gs k).1 : Int), u, V.int (gpAt gs k).2] 0 = some (.int ((gpAt gs k).1 : Int)) := atI_nat (j := 0) rfl
      have z2 : atI [V.int ((gpAt gs k).1 : Int), u, V.int (gpAt gs k).2] 2 = some (.int (gpAt gs k).2) := atI_nat (j := 2) rfl
      refine ⟨_, rfl, _, rfl, _, rfl, a, _, _, _, rfl, rfl, SqT.of ha, hat, tt, _, _, _, rfl, rfl, SqT.of htt, z0, _, _, rfl, rfl, ?_⟩
      refine ⟨_, rfl, _, rfl, _, rfl, a, _, _, _, rfl, rfl, SqT.of ha, hat, tt, _, _, _, rfl, rfl, SqT.of htt, z2, _, _, rfl, rfl, ?_⟩
      refine ⟨rfl, some (.int (k : Int)), ?_⟩
      rw [take_succ_get hk, oned_snoc, load_snoc, ← bitOr_nat]
      rfl
    · rintro σ H2 ⟨rfl, v5, rfl⟩
      rw [natsV_len, List.take_length]
      refine ⟨_, rfl, oned gs ks, rfl, oned_lt hok ks, fun p ys H3 s3 hp hy hy24 => ?_⟩
      refine ⟨p, _, rfl, .inr (SqT.of hp), _, rfl, _, _, rfl, rfl, .inl ⟨by omega, by omega⟩, ?_⟩
      rw [hy]
      exact q H3 s3
noncomputable def totP (gs : List Gp) (t : Int) (kss : List (List Nat)) : Int := (kss.map (packP gs t)).sum
noncomputable def CutAt (H : Hp) (c : Addr) (gs : List Gp) (kss : List (List Nat)) : Prop := ∃ ws, H c = some (.tup ws) ∧ Paired (PAt H) ws kss ∧ (∀ ks ∈ kss, ∀ k ∈ ks, k < gs.length) ∧ kss.length ≤ 24
theorem PAt.mono {H H' : Hp} (s : Tups H H') {v : V} {ks : List Nat} (h : PAt H v ks) : PAt H' v ks := by
  obtain ⟨t, e, h⟩ := h
  exact ⟨t, e, s _ _ h⟩
theorem GAt.mono {H H' : Hp} (s : Tups H H') {v : V} {g : Gp} (h : GAt H v g) : GAt H' v g := by
  obtain ⟨t, u, e, h⟩ := h
  exact ⟨t, u, e, s _ _ h⟩
noncomputable def spPrice : Sp := fun vs H Q _ => ∃ (a c : Addr) (us : List V) (gs : List Gp) (t : Int) (kss : List (List Nat)), vs = [.ref a, .int t, .ref c] ∧ H a = some (.tup us) ∧ Paired (GAt H) us gs ∧ GsOk gs ∧ CutAt H c gs kss ∧ ∀ H', Same H H' → Q (.int (totP gs t kss)) H'
theorem ok_price (T : Txt K mg) : L2.Cl P w K mg base 3 "price" ["groups", "toll", "cut"] spPrice := by
  have C_pack_price := ok_packP (P := P) (w := w) (base := base) T
  refine Cl.of T.d_price sc_price (fun vs H Q E h => ?_) (fun _ _ _ _ _ _ us hl => by obtain ⟨a, b, c, rfl⟩ := len3 hl; rfl) (fun f cdv A outer s H vs Q E hr h => ?_)
  · obtain ⟨a, c, us, gs, t, kss, rfl, _⟩ := h
    rfl
  · obtain ⟨a, c, us, gs, t, kss, rfl, ha, hus, hok, ⟨ws, hc, hws, hks, hkl⟩, q⟩ := h
    have hwl : ws.length = kss.length := Paired.length hws
    refine ⟨_, (pss_one (ps_ret (pe_callB (call_sum rfl) (by rfl) T.n_sum boot_sum (pa_cons (pe_comp (M := ["pack", "groups", "toll"]) (ρ := [none, some 0, some 1]) (defScope s_price) ["groups", "toll", "cut"] ⟨rfl, by decide +kernel, by decide +kernel, by decide +kernel, rfl, by decide +kernel, by decide +kernel⟩ (pi_tup (pv 2)) (fun _ _ _ _ _ _ => (pg_name (i := 0) (show (["pack", "groups", "toll"] : List Str).Nodup by decide +kernel) rfl (Or.inl rfl))) (fun _ _ _ _ _ _ => pts_nil) (fun _ _ _ _ _ _ => (pe_fn C_pack_price hr (by rfl) (pa_cons (pv 1) (pa_cons (pv 2) (pa_cons (pv 0) pa_nil)))))) pa_nil)))), ?_⟩
    refine ⟨_, rfl, c, rfl, ⟨_, SqT.of hc⟩, fun D gD => ?_⟩
    refine comp_by ws.length (fun i σ H2 => ∃ v0 : Option V, σ = [v0, some (.ref a), some (.int t)] ∧ Same H H2 ∧ H2 D = some (.lst (((kss.take i).map (packP gs t)).map V.int))) ⟨_, rfl, (Same.refl H).new gD, by rw [upd_same]; simp⟩ ?_ ?_
    · rintro i σ H2 hi ⟨v0, rfl, s2, hD2⟩
      refine ⟨⟨ws, ws[i], SqT.of (s2 _ _ hc), by simp⟩, ?_⟩
      rintro x H3 ⟨rfl, hx⟩
      obtain ⟨ks, hkk, b, eb, hb⟩ := Paired.get? hws (hx _ (SqT.of (s2 _ _ hc)))
      subst eb
      refine ntG ?_
      refine ⟨_, rfl, _, rfl, _, rfl, a, b, us, gs, t, ks, rfl, s2 _ _ ha, Paired.mapP hus fun _ _ z => z.mono s2.tups, hok, s2 _ _ hb, hks ks (List.mem_of_getElem? hkk), fun H4 s4 => ?_⟩
      refine ⟨_, s4 _ _ hD2, small1000 (by rw [List.length_map, List.length_map, List.length_take]; omega), _, rfl, (s2.trans s4).put gD, ?_⟩
      rw [upd_same, take_succ_get hkk, List.map_append, List.map_append]
      rfl
    · rintro σ H2 ⟨v0, rfl, s2, hD2⟩
      refine ⟨⟨ws, SqT.of (s2 _ _ hc), Nat.le_refl _⟩, ?_⟩
      rw [hwl, List.take_length] at hD2
      exact ⟨D, _, rfl, SqL.of hD2, q H2 s2⟩
noncomputable def spToll : Sp := fun vs H Q _ => ∃ c : Int, vs = [.int c] ∧ ∀ t : Int, Q (.int t) H
theorem ok_toll (T : Txt K mg) : L2.Cl P w K mg base 1 "_law_toll" ["_law_cell"] spToll := by
  refine Cl.of T.d_law_toll sc_law_toll (fun vs H Q E h => ?_) (fun _ _ _ _ _ _ us hl => by obtain ⟨a, rfl⟩ := len1 hl; rfl) (fun f cdv A outer s H vs Q E hr h => ?_)
  · obtain ⟨c, rfl, _⟩ := h
    rfl
  · obtain ⟨c, rfl, q⟩ := h
    refine ⟨_, (pss_cons (ps_if (pt_cmpR op_eq (pe_op op_mod (pv 0) pe_int) pe_int (nomark _))
        (pss_one (ps_ret (pe_op op_mod (pe_op op_fdiv (pv 0) pe_int) (pe_op op_pow pe_int pe_int)))) pss_nil)
      (pss_one (ps_ret (pe_op op_mod (pe_op op_fdiv (pv 0) pe_int) pe_int)))), ?_⟩
    refine ⟨_, rfl, _, _, rfl, rfl, (by show (0 : Int) < 3; decide), rfl, _, rfl, ?_⟩
    refine ite2 (fun _ => ?_) (fun _ => ?_)
    · exact ⟨_, rfl, _, _, rfl, rfl, ⟨by decide, by decide⟩, _, _, rfl, rfl, ⟨by decide, by decide, by decide⟩, _, _, rfl, rfl, (by show (0 : Int) < 10 ^ (60 : Int).toNat; decide), q _⟩
    · exact ⟨_, rfl, _, _, rfl, rfl, ⟨by decide, by decide⟩, _, _, rfl, rfl, (by show (0 : Int) < 30; decide), q _⟩
theorem and_step (a b : Nat) : a &&& b = 2 * (a / 2 &&& b / 2) + (a % 2) * (b % 2) := by
  have h1 : (a &&& b) / 2 = a / 2 &&& b / 2 := Nat.and_div_two
  have h2 : (a &&& b) % 2 = (a % 2) * (b % 2) := by
    have e := Nat.testBit_and a b 0
    simp only [Nat.testBit_zero] at e
    have m := Nat.mod_two_eq_zero_or_one (a &&& b)
    rcases Nat.mod_two_eq_zero_or_one a with x | x <;> rcases Nat.mod_two_eq_zero_or_one b with y | y <;> rcases m with z | z <;> simp_all
  have := Nat.div_add_mod (a &&& b) 2
  omega
theorem sub_iff {p x : Nat} : p ||| x = x ↔ p &&& x = p := by
  constructor
  · intro h
    refine Nat.eq_of_testBit_eq fun i => ?_
    have e := congrArg (fun z => z.testBit i) h
    simp only [Nat.testBit_or, Nat.testBit_and] at e ⊢
    cases h1 : p.testBit i <;> cases h2 : x.testBit i <;> simp_all
  · intro h
    refine Nat.eq_of_testBit_eq fun i => ?_
    have e := congrArg (fun z => z.testBit i) h
    simp only [Nat.testBit_or, Nat.testBit_and] at e ⊢
    cases h1 : p.testBit i <;> cases h2 : x.testBit i <;> simp_all
noncomputable def Msk (p x : Nat) : Prop := p &&& x = p
theorem Msk.le {p x : Nat} (h : Msk p x) : p ≤ x := by rw [← h]; exact Nat.and_le_right
theorem Msk.step {p x : Nat} : Msk p x ↔ Msk (p / 2) (x / 2) ∧ (p % 2) * (x % 2) = p % 2 := by
  unfold Msk
  have e := and_step p x
  have m : (p % 2) * (x % 2) < 2 := by
    rcases Nat.mod_two_eq_zero_or_one p with a | a <;> rcases Nat.mod_two_eq_zero_or_one x with b | b <;> rw [a, b] <;> decide
  constructor
  · intro h; omega
  · rintro ⟨h1, h2⟩; omega
theorem and_pred : ∀ (k m : Nat), (2 ^ k * (2 * m + 1)) &&& (2 ^ k * (2 * m + 1) - 1) = 2 ^ (k + 1) * m
  | 0, m => by
    rw [and_step]
    have e1 : (2 ^ 0 * (2 * m + 1)) / 2 = m := by omega
    have e2 : (2 ^ 0 * (2 * m + 1) - 1) / 2 = m := by omega
    have e3 : (2 ^ 0 * (2 * m + 1) - 1) % 2 = 0 := by omega
    rw [e1, e2, e3, Nat.and_self]
    omega
  | k + 1, m => by
    have ih := and_pred k m
    rw [and_step]
    have h : 2 ^ (k + 1) * (2 * m + 1) = 2 * (2 ^ k * (2 * m + 1)) := by rw [Nat.pow_succ, Nat.mul_comm (2 ^ k) 2, Nat.mul_assoc]
    have hp : 0 < 2 ^ k * (2 * m + 1) := Nat.mul_pos (Nat.two_pow_pos k) (by omega)
    have e1 : (2 ^ (k + 1) * (2 * m + 1)) / 2 = 2 ^ k * (2 * m + 1) := by rw [h]; omega
    have e2 : (2 ^ (k + 1) * (2 * m + 1) - 1) / 2 = 2 ^ k * (2 * m + 1) - 1 := by rw [h]; omega
    have e3 : (2 ^ (k + 1) * (2 * m + 1)) % 2 = 0 := by rw [h]; omega
    rw [e1, e2, e3, ih, Nat.zero_mul, Nat.add_zero]
    rw [show k + 1 + 1 = (k + 1) + 1 from rfl, Nat.pow_succ 2 (k + 1), Nat.mul_comm (2 ^ (k + 1)) 2, Nat.mul_assoc]
theorem first_sub : ∀ (k m v : Nat), Msk v (2 ^ (k + 1) * m) → (2 ^ k + v) &&& 2 ^ k = 2 ^ k ∧ Msk (2 ^ k + v) (2 ^ k * (2 * m + 1))
  | 0, m, v, h => by
    have h0 : 2 ^ (0 + 1) * m = 2 * m := by omega
    rw [h0] at h
    obtain ⟨h1, h2⟩ := Msk.step.mp h
    have hv : v % 2 = 0 := by
      have : (2 * m) % 2 = 0 := by omega
      rw [this] at h2; omega
    have hm : 2 * m / 2 = m := by omega
    rw [hm] at h1
    constructor
    · rw [and_step]
      have e1 : (2 ^ 0 + v) % 2 = 1 := by omega
      have e2 : (2 : Nat) ^ 0 / 2 = 0 := by decide
      rw [e1, e2, Nat.and_zero]
    · refine Msk.step.mpr ⟨?_, ?_⟩
      · have e1 : (2 ^ 0 + v) / 2 = v / 2 := by omega
        have e2 : (2 ^ 0 * (2 * m + 1)) / 2 = m := by omega
        rw [e1, e2]; exact h1
      · have e1 : (2 ^ 0 + v) % 2 = 1 := by omega
        have e2 : (2 ^ 0 * (2 * m + 1)) % 2 = 1 := by omega
        rw [e1, e2]
  | k + 1, m, v, h => by
    have h0 : 2 ^ (k + 1 + 1) * m = 2 * (2 ^ (k + 1) * m) := by rw [Nat.pow_succ 2 (k + 1), Nat.mul_comm (2 ^ (k + 1)) 2, Nat.mul_assoc]
    have hx : 2 ^ (k + 1) * (2 * m + 1) = 2 * (2 ^ k * (2 * m + 1)) := by rw [Nat.pow_succ, Nat.mul_comm (2 ^ k) 2, Nat.mul_assoc]
    have hp : 2 ^ (k + 1) = 2 * 2 ^ k := by rw [Nat.pow_succ, Nat.mul_comm]
    rw [h0] at h
    obtain ⟨h1, h2⟩ := Msk.step.mp h
    have hm : 2 * (2 ^ (k + 1) * m) / 2 = 2 ^ (k + 1) * m := by omega
    have hv : v % 2 = 0 := by
      have : (2 * (2 ^ (k + 1) * m)) % 2 = 0 := by omega
      rw [this] at h2; omega
    rw [hm] at h1
    obtain ⟨i1, i2⟩ := first_sub k m (v / 2) h1
    have e1 : (2 ^ (k + 1) + v) / 2 = 2 ^ k + v / 2 := by rw [hp]; omega
    have e2 : (2 ^ (k + 1) + v) % 2 = 0 := by rw [hp]; omega
    have e3 : 2 ^ (k + 1) / 2 = 2 ^ k := by rw [hp]; omega
    constructor
    · rw [and_step, e1, e2, e3, i1, Nat.zero_mul, Nat.add_zero, hp]
    · refine Msk.step.mpr ⟨?_, ?_⟩
      · have e4 : (2 ^ (k + 1) * (2 * m + 1)) / 2 = 2 ^ k * (2 * m + 1) := by rw [hx]; omega
        rw [e1, e4]; exact i2
      · rw [e2, Nat.zero_mul]
theorem sub_first : ∀ (k m p : Nat), p &&& 2 ^ k = 2 ^ k → Msk p (2 ^ k * (2 * m + 1)) → 2 ^ k ≤ p ∧ Msk (p - 2 ^ k) (2 ^ (k + 1) * m)
  | 0, m, p, h, hs => by
    have hp : 2 ^ 0 ≤ p := by rw [← h]; exact Nat.and_le_left
    obtain ⟨h1, h2⟩ := Msk.step.mp hs
    have hp2 : p % 2 = 1 := by
      rw [and_step] at h
      have e : (2 : Nat) ^ 0 / 2 = 0 := by decide
      rw [e, Nat.and_zero] at h
      omega
    refine ⟨hp, Msk.step.mpr ⟨?_, ?_⟩⟩
    · have e1 : (p - 2 ^ 0) / 2 = p / 2 := by omega
      have e2 : (2 ^ (0 + 1) * m) / 2 = m := by omega
      have e3 : (2 ^ 0 * (2 * m + 1)) / 2 = m := by omega
      rw [e3] at h1
      rw [e1, e2]; exact h1
    · have e1 : (p - 2 ^ 0) % 2 = 0 := by omega
      rw [e1, Nat.zero_mul]
  | k + 1, m, p, h, hs => by
    have h0 : 2 ^ (k + 1 + 1) * m = 2 * (2 ^ (k + 1) * m) := by rw [Nat.pow_succ 2 (k + 1), Nat.mul_comm (2 ^ (k + 1)) 2, Nat.mul_assoc]
    have hx : 2 ^ (k + 1) * (2 * m + 1) = 2 * (2 ^ k * (2 * m + 1)) := by rw [Nat.pow_succ, Nat.mul_comm (2 ^ k) 2, Nat.mul_assoc]
    have hp : 2 ^ (k + 1) = 2 * 2 ^ k := by rw [Nat.pow_succ, Nat.mul_comm]
    have hle : 2 ^ (k + 1) ≤ p := by rw [← h]; exact Nat.and_le_left
    rw [hx] at hs
    obtain ⟨h1, h2⟩ := Msk.step.mp hs
    have e4 : 2 * (2 ^ k * (2 * m + 1)) / 2 = 2 ^ k * (2 * m + 1) := by omega
    have hp2 : p % 2 = 0 := by
      have : (2 * (2 ^ k * (2 * m + 1))) % 2 = 0 := by omega
      rw [this] at h2; omega
    rw [e4] at h1
    have e3 : 2 ^ (k + 1) / 2 = 2 ^ k := by rw [hp]; omega
    have h3 : p / 2 &&& 2 ^ k = 2 ^ k := by
      rw [and_step, e3, hp2, Nat.zero_mul, Nat.add_zero] at h
      omega
    obtain ⟨i1, i2⟩ := sub_first k m (p / 2) h3 h1
    refine ⟨hle, Msk.step.mpr ⟨?_, ?_⟩⟩
    · have e1 : (p - 2 ^ (k + 1)) / 2 = p / 2 - 2 ^ k := by rw [hp] at hle ⊢; omega
      have e2 : (2 ^ (k + 1 + 1) * m) / 2 = 2 ^ (k + 1) * m := by rw [h0]; omega
      rw [e1, e2]; exact i2
    · have e1 : (p - 2 ^ (k + 1)) % 2 = 0 := by rw [hp] at hle ⊢; omega
      rw [e1, Nat.zero_mul]
noncomputable def bitsL (c : Nat) : List Nat := (List.range 24).filter fun j => c.testBit j
theorem filt_ge {c n : Nat} (h : c < 2 ^ n) : ∀ m, n ≤ m → ((List.range m).filter fun j => c.testBit j) = (List.range n).filter fun j => c.testBit j
  | 0, hm => by rw [Nat.le_zero.mp hm]
  | m + 1, hm => by
    by_cases e : n = m + 1
    · rw [e]
    · have hb : c.testBit m = false := Nat.testBit_lt_two_pow (Nat.lt_of_lt_of_le h (Nat.pow_le_pow_right (by decide) (by omega)))
      rw [List.range_succ, List.filter_append, filt_ge h m (by omega), List.filter_cons_of_neg (by rw [hb]; decide)]
      exact List.append_nil _
theorem bitsL_eq {c n : Nat} (h : c < 2 ^ n) (hn : n ≤ 24) : ((List.range n).filter fun j => c.testBit j) = bitsL c := (filt_ge h 24 hn).symm
theorem bitsL_lt {c n k : Nat} (h : c < 2 ^ n) (hn : n ≤ 24) (hk : k ∈ bitsL c) : k < n := by
  rw [← bitsL_eq h hn] at hk
  exact List.mem_range.mp (List.mem_filter.mp hk).1
theorem bitsL_len {c n : Nat} (h : c < 2 ^ n) (hn : n ≤ 24) : (bitsL c).length ≤ n := by
  rw [← bitsL_eq h hn]
  have := List.length_filter_le (fun j => c.testBit j) (List.range n)
  rw [List.length_range] at this
  exact this
theorem bitsL_add {p i : Nat} (hp : p < 2 ^ i) (hi : i < 24) : bitsL (2 ^ i + p) = bitsL p ++ [i] := by
  have h2 : 2 ^ i + p < 2 ^ (i + 1) := by rw [Nat.pow_succ]; omega
  rw [← bitsL_eq h2 (by omega), ← bitsL_eq hp (by omega), List.range_succ, List.filter_append]
  have e1 : ((List.range i).filter fun j => (2 ^ i + p).testBit j) = (List.range i).filter fun j => p.testBit j := by
    refine List.filter_congr fun j hj => ?_
    exact Nat.testBit_two_pow_add_gt (List.mem_range.mp hj) p
  have e2 : (2 ^ i + p).testBit i = true := by
    rw [Nat.testBit_two_pow_add_eq, Nat.testBit_lt_two_pow hp]
    rfl
  rw [e1, List.filter_cons_of_pos e2]
  rfl
theorem odd_part : ∀ x : Nat, 0 < x → ∃ k m, x = 2 ^ k * (2 * m + 1) := by
  intro x
  induction x using Nat.strongRecOn with
  | ind x ih =>
    intro hx
    rcases Nat.mod_two_eq_zero_or_one x with e | e
    · obtain ⟨k, m, h⟩ := ih (x / 2) (by omega) (by omega)
      refine ⟨k + 1, m, ?_⟩
      rw [Nat.pow_succ, Nat.mul_comm (2 ^ k) 2, Nat.mul_assoc, ← h]
      omega
    · exact ⟨0, x / 2, by omega⟩
noncomputable def lowb (x : Nat) : Nat := x - (x &&& (x - 1))
theorem lowb_eq (k m : Nat) : lowb (2 ^ k * (2 * m + 1)) = 2 ^ k := by
  unfold lowb
  rw [and_pred]
  have h : 2 ^ k * (2 * m + 1) = 2 ^ (k + 1) * m + 2 ^ k := by
    rw [Nat.mul_add, Nat.mul_one, Nat.pow_succ, Nat.mul_assoc]
  rw [h, Nat.add_sub_cancel_left]
noncomputable def FP (x p : Nat) : Prop := p &&& lowb x = lowb x ∧ p ||| x = x
theorem FP.le {x p : Nat} (h : FP x p) : lowb x ≤ p ∧ p ≤ x := by
  refine ⟨?_, Msk.le (sub_iff.mp h.2)⟩
  rw [← h.1]
  exact Nat.and_le_left
theorem low_pos {x : Nat} (hx : 0 < x) : 0 < lowb x := by
  obtain ⟨k, m, rfl⟩ := odd_part x hx
  rw [lowb_eq]
  exact Nat.two_pow_pos k
theorem low_le {x : Nat} : lowb x ≤ x := by unfold lowb; exact Nat.sub_le _ _
theorem FP_iff {x : Nat} (hx : 0 < x) (v : Nat) : Msk v (x - lowb x) ↔ FP x (lowb x + v) := by
  obtain ⟨k, m, rfl⟩ := odd_part x hx
  have h : 2 ^ k * (2 * m + 1) = 2 ^ (k + 1) * m + 2 ^ k := by
    rw [Nat.mul_add, Nat.mul_one, Nat.pow_succ, Nat.mul_assoc]
  unfold FP
  rw [lowb_eq, show 2 ^ k * (2 * m + 1) - 2 ^ k = 2 ^ (k + 1) * m by omega]
  constructor
  · intro hv
    obtain ⟨h1, h2⟩ := first_sub k m v hv
    exact ⟨h1, sub_iff.mpr h2⟩
  · rintro ⟨h1, h2⟩
    have h3 := (sub_first k m (2 ^ k + v) h1 (sub_iff.mp h2)).2
    rwa [Nat.add_sub_cancel_left] at h3
theorem FP_self {x : Nat} (hx : 0 < x) : FP x x := by
  have h := (FP_iff hx (x - lowb x)).mp (Nat.and_self _)
  have := low_le (x := x)
  rwa [show lowb x + (x - lowb x) = x by omega] at h
structure Opt (pr : Nat → Int) (bs : List (Int × Nat)) : Prop where
  zero : ∀ v, bs[0]? = some v → v = (0, 0)
  hit : ∀ x v, 0 < x → bs[x]? = some v → FP x v.2 ∧ v.1 = pr v.2 + (bs.getD (x - v.2) (0, 0)).1
  low : ∀ x v, 0 < x → bs[x]? = some v → ∀ p, FP x p → v.1 ≤ pr p + (bs.getD (x - p) (0, 0)).1
theorem getD_app {α : Type} {l : List α} {a d : α} {i : Nat} (h : i < l.length) : (l ++ [a]).getD i d = l.getD i d := by
  rw [List.getD_eq_getElem?_getD, List.getD_eq_getElem?_getD, List.getElem?_append_left h]
theorem Opt.snoc {pr : Nat → Int} {bs : List (Int × Nat)} {v : Int × Nat} (h : Opt pr bs) (hl : 0 < bs.length) (h1 : FP bs.length v.2) (h2 : v.1 = pr v.2 + (bs.getD (bs.length - v.2) (0, 0)).1) (h3 : ∀ p, FP bs.length p → v.1 ≤ pr p + (bs.getD (bs.length - p) (0, 0)).1) : Opt pr (bs ++ [v]) := by
  have hlow : ∀ {x p}, 0 < x → FP x p → x - p < x := fun {x p} hx hf => by
    have h4 := hf.le
    have h5 := low_pos hx
    omega
  have hget : ∀ {x u}, (bs ++ [v])[x]? = some u → (x < bs.length ∧ bs[x]? = some u) ∨ (x = bs.length ∧ u = v) := fun {x u} e => by
    rcases Nat.lt_trichotomy x bs.length with c | c | c
    · rw [List.getElem?_append_left c] at e; exact .inl ⟨c, e⟩
    · rw [c, List.getElem?_append_right (Nat.le_refl _), Nat.sub_self] at e; exact .inr ⟨c, (Option.some.inj e).symm⟩
    · rw [List.getElem?_eq_none (by rw [List.length_append]; simp; omega)] at e; cases e
  refine ⟨fun u e => ?_, fun x u hx e => ?_, fun x u hx e p hp => ?_⟩
  · rcases hget e with ⟨_, e'⟩ | ⟨c, _⟩
    · exact h.zero u e'
    · omega
  · rcases hget e with ⟨c, e'⟩ | ⟨c, rfl⟩
    · obtain ⟨a, b⟩ := h.hit x u hx e'
      refine ⟨a, ?_⟩
      rw [getD_app (Nat.lt_trans (hlow hx a) c)]
      exact b
    · subst c
      refine ⟨h1, ?_⟩
      rw [getD_app (hlow hx h1)]
      exact h2
  · rcases hget e with ⟨c, e'⟩ | ⟨c, rfl⟩
    · rw [getD_app (Nat.lt_trans (hlow hx hp) c)]
      exact h.low x u hx e' p hp
    · subst c
      rw [getD_app (hlow hx hp)]
      exact h3 p hp
noncomputable def spIn2 : Sp := fun vs H Q _ => ∃ c : Nat, vs = [.int (c : Int)] ∧ c < 2 ^ 24 ∧ ∀ (p : Addr) (H' : Hp), Same H H' → H' p = some (.tup (natsV (bitsL c))) → Q (.ref p) H'
theorem ok_in2 (T : Txt K mg) : L2.Cl P w K mg base 1 "numbers_in" ["whole"] spIn2 := by
  refine Cl.of T.d_numbers_in sc_numbers_in (fun vs H Q E h => ?_) (fun _ _ _ _ _ _ us hl => by obtain ⟨a, rfl⟩ := len1 hl; rfl) (fun f cdv A outer s H vs Q E hr h => ?_)
  · obtain ⟨c, rfl, _⟩ := h
    rfl
  · obtain ⟨c, rfl, hc, q⟩ := h
    have hb := bits_few hc
    have hlt := bits_lt c
    refine ⟨_, (pss_one (ps_ret (pe_callTy call_tuple_of (by rfl) T.n_tuple boot_tuple (pa_cons (pe_comp (M := ["number", "whole"]) (ρ := [none, some 0]) (defScope s_numbers_in) ["whole"] ⟨rfl, by decide +kernel, by decide +kernel, by decide +kernel, rfl, by decide +kernel, by decide +kernel⟩ (pi_range1 (by rfl) T.n_range (pa_cons (pe_bm0 PySem.F.plainAttrs_int PySem.F.slot_int_bit_length PySem.F.type_int_bit_length mt_bit_length (pv 0)) pa_nil)) (fun _ _ _ _ _ _ => (pg_name (i := 0) (show (["number", "whole"] : List Str).Nodup by decide +kernel) rfl (Or.inl rfl))) (fun _ _ _ _ _ _ => (pts_one (pt_truthK (K := K) rfl (pe_op op_and (pe_op op_shr (pv 1) (pv 0)) pe_int) (fun _ => rfl)))) (fun _ _ _ _ _ _ => (pv 0))) pa_nil)))), ?_⟩
    refine ⟨_, rfl, rfl, _, rfl, rfl, _, rfl, by omega, by omega, fun D gD => ?_⟩
    generalize Builtin.Int.intBits (c : Int) = n at hb hlt ⊢
    rw [Int.toNat_natCast]
    refine comp_by n (fun i σ H2 => ∃ v0 : Option V, σ = [v0, some (.int (c : Int))] ∧ Same H H2 ∧ H2 D = some (.lst (natsV ((List.range i).filter fun j => c.testBit j)))) ⟨_, rfl, (Same.refl H).new gD, upd_same⟩ ?_ ?_
    · rintro i σ H2 hi ⟨v0, rfl, s2, hD2⟩
      have hyl : (natsV ((List.range i).filter fun j => c.testBit j)).length ≤ 24 := by
        rw [natsV_len]
        have := List.length_filter_le (fun j => c.testBit j) (List.range i)
        rw [List.length_range] at this
        omega
      refine ⟨hi, ?_⟩
      rintro x H3 ⟨rfl, rfl⟩
      have hsn : ((List.range (i + 1)).filter fun j => c.testBit j) = ((List.range i).filter fun j => c.testBit j) ++ if c.testBit i = true then [i] else [] := by
        rw [List.range_succ, List.filter_append]
        by_cases e : c.testBit i = true
        · rw [if_pos e, List.filter_cons_of_pos e]; rfl
        · rw [if_neg e, List.filter_cons_of_neg e]; rfl
      refine ⟨_, rfl, _, rfl, _, _, rfl, rfl, (by show 0 ≤ 0 + (i : Int); omega), _, _, rfl, rfl, _, rfl, ?_⟩
      rw [Int.zero_add, tb]
      refine ite2 (fun e => ?_) (fun e => ?_)
      · refine ⟨_, rfl, _, hD2, small1000 (by omega), _, rfl, s2.put gD, ?_⟩
        rw [upd_same, hsn, if_pos e, natsV_snoc]
      · refine ⟨_, rfl, s2, ?_⟩
        rw [hsn, if_neg e, List.append_nil]
        exact hD2
    · rintro σ H2 ⟨v0, rfl, s2, hD2⟩
      refine ⟨Nat.le_refl _, ?_⟩
      rw [bitsL_eq hlt hb] at hD2
      refine ⟨D, _, rfl, .inl ⟨SqL.of hD2, fun p gp => ?_⟩⟩
      exact q p _ (s2.new gp) upd_same
noncomputable def prc (gs : List Gp) (t : Int) (p : Nat) : Int := packP gs t (bitsL p)
noncomputable def lones (gs : List Gp) (t : Int) : List Int := (List.range (2 ^ gs.length)).map (prc gs t)
theorem lones_len (gs : List Gp) (t : Int) : (lones gs t).length = 2 ^ gs.length := by unfold lones; rw [List.length_map, List.length_range]
theorem two_le {i : Nat} (h : i ≤ 8) : 2 ^ i ≤ 256 := Nat.pow_le_pow_right (n := 2) (by decide) h
theorem bitAnd_nat (a b : Nat) : Builtin.bitAnd (a : Int) (b : Int) = ((a &&& b : Nat) : Int) := by
  rw [bitAnd_pp (Int.natCast_nonneg _) (Int.natCast_nonneg _), Int.toNat_natCast, Int.toNat_natCast]
theorem bitAnd_low {x : Nat} (h : 0 < x) : Builtin.bitAnd (x : Int) (-(x : Int)) = ((lowb x : Nat) : Int) := by
  have h1 : decide (0 ≤ (x : Int)) = true := decide_eq_true (by omega)
  have h2 : decide (0 ≤ -(x : Int)) = false := decide_eq_false (by omega)
  unfold Builtin.bitAnd
  rw [h1, h2]
  show (x : Int) - (((x : Int).toNat &&& (Builtin.bitNot (-(x : Int))).toNat : Nat) : Int) = _
  have e : (Builtin.bitNot (-(x : Int))).toNat = x - 1 := by unfold Builtin.bitNot; omega
  rw [e, Int.toNat_natCast]
  unfold lowb
  have := Nat.and_le_left (n := x) (m := x - 1)
  omega
noncomputable def fpB (x p : Nat) : Bool := decide (p &&& lowb x = lowb x) && decide (p ||| x = x)
theorem fpB_iff {x p : Nat} : fpB x p = true ↔ FP x p := by
  unfold fpB FP
  rw [Bool.and_eq_true, decide_eq_true_iff, decide_eq_true_iff]
noncomputable def spFirst : Sp := fun vs H Q _ => ∃ x : Nat, vs = [.int (x : Int)] ∧ 0 < x ∧ x < 256 ∧ ∀ (l : Addr) (ps : List Nat) (H' : Hp), Same H H' → H' l = some (.lst (natsV ps)) → ps ≠ [] → ps.length ≤ 256 → (∀ p, p ∈ ps ↔ FP x p) → Q (.ref l) H'
theorem ok_first (T : Txt K mg) : L2.Cl P w K mg base 1 "first_packs" ["place"] spFirst := by
  refine Cl.of T.d_first_packs sc_first_packs (fun vs H Q E h => ?_) (fun _ _ _ _ _ _ us hl => by obtain ⟨a, rfl⟩ := len1 hl; rfl) (fun f cdv A outer s H vs Q E hr h => ?_)
  · obtain ⟨x, rfl, _⟩ := h
    rfl
  · obtain ⟨x, rfl, hx0, hx, q⟩ := h
    have hlp := low_pos hx0
    have hll := low_le (x := x)
    refine ⟨_, (pss_cons (ps_set (i := 1) sc_first_packs.nd rfl (Or.inr rfl) (pe_op op_and (pv 0) (pe_un un_neg (pv 0))))
      (pss_one (ps_ret (pe_comp (M := ["pack", "first", "place"]) (ρ := [none, some 1, some 0]) (defScope s_first_packs) ["place", "first"] ⟨rfl, by decide +kernel, by decide +kernel, by decide +kernel, rfl, by decide +kernel, by decide +kernel⟩ (pi_range2 (by rfl) T.n_range (pa_cons (pv 1) (pa_cons (pe_op op_add (pv 0) pe_int) pa_nil))) (fun _ _ _ _ _ _ => (pg_name (i := 0) (show (["pack", "first", "place"] : List Str).Nodup by decide +kernel) rfl (Or.inl rfl))) (fun _ _ _ _ _ _ => (pts_one (PW.pt (pw_and (pt_cmpR op_eq (pe_op op_and (pv 0) (pv 1)) (pv 1) (nomark _)) (pw_and1 (pt_cmpR op_eq (pe_op op_or (pv 0) (pv 2)) (pv 2) (nomark _))))))) (fun _ _ _ _ _ _ => (pv 0)))))), ?_⟩
    refine ⟨_, rfl, _, rfl, _, rfl, _, _, rfl, rfl, ?_⟩
    show gName 1 (V.int (Builtin.bitAnd (x : Int) (-(x : Int)))) _ _ _
    rw [bitAnd_low hx0]
    refine ⟨_, rfl, _, rfl, _, _, rfl, rfl, _, _, rfl, ?_⟩
    have hn : (((x : Int) + 1) - ((lowb x : Nat) : Int)).toNat = x + 1 - lowb x := by omega
    refine ⟨⟨by omega, by omega, by omega, by omega⟩, fun D gD => ?_⟩
    rw [hn]
    refine comp_by (x + 1 - lowb x) (fun i σ H2 => ∃ v0 : Option V, σ = [v0, some (.int ((lowb x : Nat) : Int)), some (.int (x : Int))] ∧ Same H H2 ∧ H2 D = some (.lst (natsV (((List.range i).map fun j => lowb x + j).filter (fpB x))))) ⟨_, rfl, (Same.refl H).new gD, upd_same⟩ ?_ ?_
    · rintro i σ H2 hi ⟨v0, rfl, s2, hD2⟩
      have hyl : (natsV (((List.range i).map fun j => lowb x + j).filter (fpB x))).length ≤ 256 := by
        rw [natsV_len]
        have := List.length_filter_le (fpB x) ((List.range i).map fun j => lowb x + j)
        rw [List.length_map, List.length_range] at this
        omega
      refine ⟨hi, ?_⟩
      rintro y H3 ⟨rfl, rfl⟩
      have hsn : (((List.range (i + 1)).map fun j => lowb x + j).filter (fpB x)) = (((List.range i).map fun j => lowb x + j).filter (fpB x)) ++ if fpB x (lowb x + i) = true then [lowb x + i] else [] := by
        rw [List.range_succ, List.map_append, List.filter_append]
        by_cases e : fpB x (lowb x + i) = true
        · rw [if_pos e, List.map_cons, List.filter_cons_of_pos e]; rfl
        · rw [if_neg e, List.map_cons, List.filter_cons_of_neg e]; rfl
      have ec : ((lowb x : Nat) : Int) + (i : Int) = ((lowb x + i : Nat) : Int) := by omega
      rw [ec]
      refine tand_pure (a := decide ((lowb x + i) &&& lowb x = lowb x)) (b := decide ((lowb x + i) ||| x = x)) (fun Q' h => ?_) (fun Q' h => ?_) _ ?_
      · refine ⟨_, rfl, _, rfl, _, _, rfl, rfl, _, rfl, rfl, _, rfl, ?_⟩
        have e : decide (V.int (Builtin.bitAnd ((lowb x + i : Nat) : Int) ((lowb x : Nat) : Int)) = V.int ((lowb x : Nat) : Int)) = decide ((lowb x + i) &&& lowb x = lowb x) := by
          rw [bitAnd_nat]
          exact decide_eq_decide.mpr ⟨fun z => Int.ofNat.inj (V.int.inj z), fun z => by rw [z]⟩
        show Q' (decide (V.int (Builtin.bitAnd ((lowb x + i : Nat) : Int) ((lowb x : Nat) : Int)) = V.int ((lowb x : Nat) : Int))) _
        rw [e]
        exact h
      · refine ⟨_, rfl, _, rfl, _, _, rfl, rfl, _, rfl, rfl, _, rfl, ?_⟩
        have e : decide (V.int (Builtin.bitOr ((lowb x + i : Nat) : Int) (x : Int)) = V.int (x : Int)) = decide ((lowb x + i) ||| x = x) := by
          rw [bitOr_nat]
          exact decide_eq_decide.mpr ⟨fun z => Int.ofNat.inj (V.int.inj z), fun z => by rw [z]⟩
        show Q' (decide (V.int (Builtin.bitOr ((lowb x + i : Nat) : Int) (x : Int)) = V.int (x : Int))) _
        rw [e]
        exact h
      show if fpB x (lowb x + i) = true then _ else _
      refine ite2 (fun e => ?_) (fun e => ?_)
      · refine ⟨_, rfl, _, hD2, small1000 (by omega), _, rfl, s2.put gD, ?_⟩
        rw [upd_same, hsn, if_pos e, natsV_snoc]
      · refine ⟨_, rfl, s2, ?_⟩
        rw [hsn, if_neg e, List.append_nil]
        exact hD2
    · rintro σ H2 ⟨v0, rfl, s2, hD2⟩
      refine ⟨Nat.le_refl _, ?_⟩
      have hmem : ∀ p, p ∈ (((List.range (x + 1 - lowb x)).map fun j => lowb x + j).filter (fpB x)) ↔ FP x p := fun p => by
        rw [List.mem_filter, fpB_iff]
        refine ⟨fun z => z.2, fun z => ⟨?_, z⟩⟩
        have := z.le
        exact List.mem_map.mpr ⟨p - lowb x, List.mem_range.mpr (by omega), by omega⟩
      refine q D _ H2 s2 hD2 (fun z => ?_) ?_ hmem
      · have := (hmem x).mpr (FP_self hx0)
        rw [z] at this
        simp at this
      · have := List.length_filter_le (fpB x) ((List.range (x + 1 - lowb x)).map fun j => lowb x + j)
        rw [List.length_map, List.length_range] at this
        omega
noncomputable def PrB (H : Hp) (v : V) (x : Int × Nat) : Prop := ∃ t, v = .ref t ∧ H t = some (.tup [.int x.1, .int (x.2 : Int)])
theorem PrB.mono {H H' : Hp} (s : Tups H H') {v : V} {x : Int × Nat} (h : PrB H v x) : PrB H' v x := by
  obtain ⟨t, e, h⟩ := h
  exact ⟨t, e, s _ _ h⟩
noncomputable def spBest : Sp := fun vs H Q _ => ∃ (a : Addr) (us : List V) (gs : List Gp) (t : Int), vs = [.ref a, .int t] ∧ H a = some (.tup us) ∧ Paired (GAt H) us gs ∧ GsOk gs ∧ gs.length ≤ 8 ∧ ∀ (l : Addr) (vs : List V) (bs : List (Int × Nat)) (H' : Hp), Same H H' → H' l = some (.lst vs) → Paired (PrB H') vs bs → Opt (prc gs t) bs → bs.length = 2 ^ gs.length → Q (.ref l) H'
theorem ok_best (T : Txt K mg) : L2.Cl P w K mg base 3 "best_packs" ["groups", "toll"] spBest := by
  have C_pack_price := ok_packP (P := P) (w := w) (base := base) T
  have C_numbers_in := ok_in2 (P := P) (w := w) (base := base) T
  have C_first_packs := ok_first (P := P) (w := w) (base := base) T
  refine Cl.of T.d_best_packs sc_best_packs (fun vs H Q E h => ?_) (fun _ _ _ _ _ _ us hl => by obtain ⟨a, b, rfl⟩ := len2 hl; rfl) (fun f cdv A outer s H vs Q E hr h => ?_)
  · obtain ⟨a, us, gs, t, rfl, _⟩ := h
    rfl
  · obtain ⟨a, us, gs, t, rfl, ha, hus, hok, hg8, q⟩ := h
    have hul : us.length = gs.length := Paired.length hus
    have hu := hu_of hr
    have h256 : 2 ^ gs.length ≤ 256 := two_le hg8
    have hpos : 0 < 2 ^ gs.length := Nat.two_pow_pos _
    refine ⟨_, (pss_cons (ps_if (pt_cmpR op_gt (pe_callB call_len_seq (by rfl) T.n_len PySem.boot_len (pa_cons (pv 0) pa_nil)) (pe_globS T.g_MOST_GROUPS (by rfl)) (nomark _))
        (pss_one ps_never) pss_nil)
      (pss_cons (ps_set (i := 2) sc_best_packs.nd rfl (Or.inr rfl) (pe_comp (M := ["pack", "groups", "toll"]) (ρ := [none, some 0, some 1]) (defScope s_best_packs) ["groups", "toll", "prices", "best", "place"] ⟨rfl, by decide +kernel, by decide +kernel, by decide +kernel, rfl, by decide +kernel, by decide +kernel⟩ (pi_range1 (by rfl) T.n_range (pa_cons (pe_op op_shl pe_int (pe_callB call_len_seq (by rfl) T.n_len PySem.boot_len (pa_cons (pv 0) pa_nil))) pa_nil)) (fun _ _ _ _ _ _ => (pg_name (i := 0) (show (["pack", "groups", "toll"] : List Str).Nodup by decide +kernel) rfl (Or.inl rfl))) (fun _ _ _ _ _ _ => pts_nil) (fun _ _ _ _ _ _ => (pe_fn C_pack_price hr (by rfl) (pa_cons (pv 1) (pa_cons (pv 2) (pa_cons (pe_fn C_numbers_in hr (by rfl) (pa_cons (pv 0) pa_nil)) pa_nil)))))))
      (pss_cons (ps_set (i := 3) sc_best_packs.nd rfl (Or.inr rfl) (pe_lst (pa_cons (pe_tup (pa_cons pe_int (pa_cons pe_int pa_nil))) pa_nil)))
      (pss_cons (ps_for PassesOwn.never rfl (pi_range2 (by rfl) T.n_range (pa_cons pe_int (pa_cons (pe_callB call_len_seq (by rfl) T.n_len PySem.boot_len (pa_cons (pv 2) pa_nil)) pa_nil))) (pg_name (i := 4) sc_best_packs.nd rfl (Or.inr rfl))
        (pss_one (ps_expr (pe_bm PySem.F.plainAttrs_list PySem.F.slot_list_append PySem.F.type_list_append mt_append (pv 3) (pa_cons (pe_callB (call_minP rfl hu) (by rfl) T.n_min boot_min (pa_cons (pe_comp (M := ["pack", "prices", "best", "place"]) (ρ := [none, some 2, some 3, some 4]) (defScope s_best_packs) ["groups", "toll", "prices", "best", "place"] ⟨rfl, by decide +kernel, by decide +kernel, by decide +kernel, rfl, by decide +kernel, by decide +kernel⟩ (pi_list (pe_fn C_first_packs hr (by rfl) (pa_cons (pv 4) pa_nil))) (fun _ _ _ _ _ _ => (pg_name (i := 0) (show (["pack", "prices", "best", "place"] : List Str).Nodup by decide +kernel) rfl (Or.inl rfl))) (fun _ _ _ _ _ _ => pts_nil) (fun _ _ _ _ _ _ => (pe_tup (pa_cons (pe_op op_add (pe_ix (ix_listK (K := K) rfl) (pv 1) (pv 0) (fun _ _ => rfl)) (pe_ix (ix_tupK (K := K) rfl) (pe_ix (ix_listK (K := K) rfl) (pv 2) (pe_op op_sub (pv 3) (pv 0)) (fun _ _ => rfl)) pe_int (fun _ _ => rfl))) (pa_cons (pv 0) pa_nil))))) pa_nil)) pa_nil)))))
      (pss_one (ps_ret (pv 3))))))), ?_⟩
    refine ⟨_, rfl, a, _, rfl, .inr (SqT.of ha), _, _, rfl, rfl, _, rfl, ite2 (fun hh => absurd (of_decide_eq_true hh) (by omega)) fun _ => ?_⟩
    refine ⟨_, rfl, a, _, rfl, .inr (SqT.of ha), _, _, rfl, rfl, ⟨by omega, by omega, by decide⟩, _, rfl, ?_⟩
    have e2 : (1 : Int) * 2 ^ ((us.length : Int)).toNat = ((2 ^ gs.length : Nat) : Int) := by
      rw [Int.one_mul, Int.toNat_natCast, hul, Int.natCast_pow]
      rfl
    rw [e2]
    refine ⟨by omega, by omega, fun D gD => ?_⟩
    rw [Int.toNat_natCast]
    refine comp_by (2 ^ gs.length) (fun i σ H2 => ∃ v0 : Option V, σ = [v0, some (.ref a), some (.int t)] ∧ Same H H2 ∧ H2 D = some (.lst (((lones gs t).take i).map V.int))) ⟨_, rfl, (Same.refl H).new gD, by rw [upd_same, List.take_zero]; rfl⟩ ?_ ?_
    · rintro i σ H2 hi ⟨v0, rfl, s2, hD2⟩
      refine ⟨hi, ?_⟩
      rintro y H3 ⟨rfl, rfl⟩
      refine ntG ?_
      rw [Int.zero_add]
      have hi24 : i < 2 ^ 24 := Nat.lt_of_lt_of_le (Nat.lt_of_lt_of_le hi h256) (by decide)
      have hlj : (lones gs t)[i]? = some (prc gs t i) := by
        unfold lones
        rw [List.getElem?_map, List.getElem?_range hi]
        rfl
      refine ⟨_, rfl, _, rfl, _, rfl, i, rfl, hi24, fun p H4 s4 hp => ?_⟩
      have s24 := s2.trans s4
      refine ⟨a, p, us, gs, t, bitsL i, rfl, s24 _ _ ha, Paired.mapP hus fun _ _ z => z.mono s24.tups, hok, hp, fun k hk => bitsL_lt hi (by omega) hk, fun H5 s5 => ?_⟩
      refine ⟨_, s5 _ _ (s4 _ _ hD2), small1000 (by rw [List.length_map, List.length_take, lones_len]; omega), _, rfl, (s24.trans s5).put gD, ?_⟩
      rw [upd_same, take_succ_get hlj, List.map_append]
      rfl
    rintro σ H2 ⟨v0, rfl, s2, hD2⟩
    refine ⟨Nat.le_refl _, ?_⟩
    rw [← lones_len gs t, List.take_length] at hD2
    refine ⟨(by show 2 ≤ sizeLine; decide), fun q0 gq => ?_⟩
    have s3 : Same H2 (upd H2 q0 (.tup [.int 0, .int 0])) := (Same.refl H2).new gq
    have hq0 : upd H2 q0 (.tup [.int 0, .int 0]) q0 = some (.tup [.int 0, .int 0]) := upd_same
    generalize upd H2 q0 (.tup [.int 0, .int 0]) = H3 at s3 hq0 ⊢
    have hD3 := s3 _ _ hD2
    refine ⟨(by show 1 ≤ sizeLine; decide), fun B gB => ?_⟩
    have hBD : D ≠ B := fun z => by rw [← z, hD3] at gB; cases gB
    have gBH : H B = none := s2.free (s3.free gB)
    have s4 : Same H (upd H3 B (.lst [.ref q0])) := (s2.trans s3).new gB
    have hD4 : upd H3 B (.lst [.ref q0]) D = some (.lst ((lones gs t).map V.int)) := upd_keep hD3 gB
    have hB4 : upd H3 B (.lst [.ref q0]) B = some (.lst [.ref q0]) := upd_same
    have hq4 : upd H3 B (.lst [.ref q0]) q0 = some (.tup [.int 0, .int 0]) := upd_keep hq0 gB
    generalize upd H3 B (.lst [.ref q0]) = H4 at s4 hD4 hB4 hq4 ⊢
    refine ⟨_, rfl, D, _, rfl, .inl (SqL.of hD4), _, _, rfl, ?_⟩
    rw [List.length_map, lones_len]
    have hn : (((2 ^ gs.length : Nat) : Int) - 1).toNat = 2 ^ gs.length - 1 := by omega
    refine ⟨⟨by omega, by omega, by omega, by omega⟩, ?_⟩
    rw [hn]
    refine for_range (fun i σ H5 => ∃ (v4 : Option V) (vs : List V) (bs : List (Int × Nat)), σ = [some (.ref a), some (.int t), some (.ref D), some (.ref B), v4] ∧ Same H H5 ∧ H5 D = some (.lst ((lones gs t).map V.int)) ∧ H5 B = some (.lst vs) ∧ Paired (PrB H5) vs bs ∧ Opt (prc gs t) bs ∧ bs.length = i + 1)
      ⟨none, [.ref q0], [(0, 0)], rfl, s4, hD4, hB4, .cons ⟨q0, rfl, hq4⟩ .nil, ⟨fun v e => (Option.some.inj e).symm, fun x v hx e => ?_, fun x v hx e => ?_⟩, rfl⟩ ?_ ?_
    · rw [List.getElem?_eq_none (by simp; omega)] at e; cases e
    · rw [List.getElem?_eq_none (by simp; omega)] at e; cases e
    · rintro i σ H5 hi ⟨v4, vs, bs, rfl, s5, hD5, hB5, hvs, hopt, hbl⟩
      have hvl : vs.length = bs.length := Paired.length hvs
      have ex : (1 : Int) + (i : Int) = ((bs.length : Nat) : Int) := by omega
      rw [ex]
      refine ⟨_, rfl, .inl ⟨rfl, _, SqL.of hB5⟩, _, rfl, bs.length, rfl, by omega, by omega, fun l ps H6 s6 hl hpne hpl hpm => ?_⟩
      refine ⟨l, rfl, ⟨_, SqL.of hl⟩, fun D7 gD7 => ?_⟩
      refine comp_by ps.length (fun j σ H7 => ∃ (v0 : Option V) (ws : List V), σ = [v0, some (.ref D), some (.ref B), some (.int ((bs.length : Nat) : Int))] ∧ Same H6 H7 ∧ H7 D7 = some (.lst ws) ∧ Paired (PrB H7) ws ((ps.take j).map fun p => (prc gs t p + (bs.getD (bs.length - p) (0, 0)).1, p))) ⟨_, [], rfl, (Same.refl H6).new gD7, upd_same, by rw [List.take_zero]; exact .nil⟩ ?_ ?_
      · rintro j σ H7 hj ⟨v0, ws, rfl, s7, hD7, hws⟩
        refine ⟨⟨_, .int (ps[j] : Int), SqL.of (s7 _ _ hl), by unfold natsV; simp [hj]⟩, ?_⟩
        rintro y H8 ⟨rfl, hy⟩
        obtain ⟨p, hp, rfl⟩ := natsV_get (hy _ (SqL.of (s7 _ _ hl)))
        have hfp := (hpm p).mp (List.mem_of_getElem? hp)
        have hple := hfp.le
        have hlp := low_pos (x := bs.length) (by omega)
        have hwl : ws.length ≤ 256 := by rw [Paired.length hws, List.length_map, List.length_take]; omega
        have s67 := s6.trans s7
        have hlj : (lones gs t)[p]? = some (prc gs t p) := by
          unfold lones
          rw [List.getElem?_map, List.getElem?_range (by omega)]
          rfl
        have atp : atI ((lones gs t).map V.int) (p : Int) = some (.int (prc gs t p)) := atI_nat (by rw [List.getElem?_map, hlj]; rfl)
        have hb : bs[bs.length - p]? = some bs[bs.length - p] := List.getElem?_eq_getElem (by omega)
        obtain ⟨u, hu', tb, eb, htb⟩ := Paired.get?' hvs hb
        subst eb
        have hgd : bs.getD (bs.length - p) (0, 0) = bs[bs.length - p] := by rw [List.getD_eq_getElem?_getD, hb]; rfl
        have atb : atI vs (((bs.length : Nat) : Int) - (p : Int)) = some (.ref tb) := by
          rw [show ((bs.length : Nat) : Int) - (p : Int) = ((bs.length - p : Nat) : Int) by omega]
          exact atI_nat hu'
        have z0 : atI [V.int (bs[bs.length - p]).1, V.int ((bs[bs.length - p]).2 : Int)] 0 = some (.int (bs[bs.length - p]).1) := atI_nat (j := 0) rfl
        refine ntG ?_
        refine ⟨_, rfl, _, rfl, D, _, _, _, rfl, rfl, SqL.of (s67 _ _ hD5), atp, _, rfl, _, rfl, _, rfl, _, _, rfl, rfl, B, _, _, _, rfl, rfl, SqL.of (s67 _ _ hB5), atb, tb, _, _, _, rfl, rfl, SqT.of (s67 _ _ htb), z0, _, _, rfl, rfl, _, rfl, (by show 2 ≤ sizeLine; decide), fun r gr => ?_⟩
        have s8 := (Same.refl H8).new (o := .tup [.int (prc gs t p + (bs[bs.length - p]).1), .int (p : Int)]) gr
        have T9 := Tups.lst (ys := ws ++ [.ref r]) (s8 _ _ hD7)
        refine ⟨ws, s8 _ _ hD7, small1000 (by omega), _, ws ++ [.ref r], rfl, (s7.trans s8).put gD7, upd_same, ?_⟩
        rw [take_succ_get hp, List.map_append]
        refine Paired.snoc (Paired.mapP hws fun _ _ z => z.mono (s8.tups.trans T9)) ⟨r, rfl, T9 _ _ ?_⟩
        rw [upd_same]
        show _ = some (HO.tup [V.int (prc gs t p + (bs.getD (bs.length - p) (0, 0)).1), V.int (p : Int)])
        rw [hgd]
      rintro σ H7 ⟨v0, ws, rfl, s7, hD7, hws⟩
      refine ⟨⟨_, SqL.of (s7 _ _ hl), by rw [natsV_len]; exact Nat.le_refl _⟩, ?_⟩
      rw [List.take_length] at hws
      refine ⟨D7, ws, (ps.map fun p => (prc gs t p + (bs.getD (bs.length - p) (0, 0)).1, p)).map fun x => (x.1, (x.2 : Int)), rfl, SqL.of hD7, ?_, fun z => hpne (List.map_eq_nil_iff.mp (List.map_eq_nil_iff.mp z)), fun k v n hv hn hmin => ?_⟩
      · clear hD7
        generalize (ps.map fun p => (prc gs t p + (bs.getD (bs.length - p) (0, 0)).1, p)) = xs at hws ⊢
        induction hws with
        | nil => exact .nil
        | cons h _ ih =>
          obtain ⟨tt, e, ht⟩ := h
          exact .cons ⟨tt, e, SqT.of ht⟩ ih
      obtain ⟨x, hx, tv, ev, htv⟩ := Paired.get? hws hv
      subst ev
      rw [List.getElem?_map] at hx
      cases ep : ps[k]? with
      | none => rw [ep] at hx; cases hx
      | some p =>
        rw [ep] at hx
        cases hx
        have hn' : n = (prc gs t p + (bs.getD (bs.length - p) (0, 0)).1, (p : Int)) := by
          rw [List.getElem?_map, List.getElem?_map, ep] at hn
          exact (Option.some.inj hn).symm
        have hfp := (hpm p).mp (List.mem_of_getElem? ep)
        have hB7 := (s6.trans s7) _ _ hB5
        refine ⟨B, _, _, rfl, rfl, hB7, small1000 (by omega), ?_⟩
        have T8 := Tups.lst (ys := vs ++ [.ref tv]) hB7
        refine ⟨_, vs ++ [.ref tv], bs ++ [(prc gs t p + (bs.getD (bs.length - p) (0, 0)).1, p)], rfl, ((s5.trans s6).trans s7).put gBH, ?_, upd_same, ?_, ?_, ?_⟩
        · rw [upd_ne hBD]; exact (s6.trans s7) _ _ hD5
        · exact Paired.snoc (Paired.mapP hvs fun _ _ z => z.mono ((s6.trans s7).tups.trans T8)) ⟨tv, rfl, T8 _ _ htv⟩
        · refine hopt.snoc (by omega) hfp rfl fun p' hp' => ?_
          have h1 := hmin (prc gs t p' + (bs.getD (bs.length - p') (0, 0)).1, (p' : Int)) (List.mem_map.mpr ⟨_, List.mem_map.mpr ⟨p', (hpm p').mpr hp', rfl⟩, rfl⟩)
          rw [hn'] at h1
          exact h1
        · rw [List.length_append, hbl]; rfl
    · rintro σ H5 ⟨v4, vs, bs, rfl, s5, hD5, hB5, hvs, hopt, hbl⟩
      exact ⟨_, rfl, q B vs bs H5 s5 hB5 hvs hopt (by omega)⟩
theorem sub_bit : ∀ (i q X : Nat), Msk q X → (X - q).testBit i = (X.testBit i && !q.testBit i)
  | 0, q, X, h => by
    obtain ⟨h1, h2⟩ := Msk.step.mp h
    have hl := h.le
    have hl2 := h1.le
    simp only [Nat.testBit_zero]
    rcases Nat.mod_two_eq_zero_or_one q with a | a <;> rcases Nat.mod_two_eq_zero_or_one X with b | b <;> rw [a, b] at h2 <;> rw [a, b] <;> simp at h2 ⊢ <;> omega
  | i + 1, q, X, h => by
    obtain ⟨h1, h2⟩ := Msk.step.mp h
    have hl := h.le
    have e : (X - q) / 2 = X / 2 - q / 2 := by
      have hl2 := h1.le
      rcases Nat.mod_two_eq_zero_or_one q with a | a <;> rcases Nat.mod_two_eq_zero_or_one X with b | b <;> rw [a, b] at h2 <;> simp at h2 <;> omega
    rw [Nat.testBit_succ, Nat.testBit_succ, Nat.testBit_succ, e]
    exact sub_bit i (q / 2) (X / 2) h1
theorem bitsL_nd (c : Nat) : (bitsL c).Nodup := by unfold bitsL; exact List.nodup_range.filter _
theorem bitsL_up (c : Nat) : (bitsL c).Pairwise (· < ·) := by unfold bitsL; exact List.pairwise_lt_range.filter _
theorem mem_bits {x l : Nat} (h : x < 2 ^ 24) : l ∈ bitsL x ↔ x.testBit l = true := by
  unfold bitsL
  rw [List.mem_filter, List.mem_range]
  refine ⟨fun z => z.2, fun z => ⟨?_, z⟩⟩
  exact (Nat.pow_lt_pow_iff_right (by decide)).mp (Nat.lt_of_le_of_lt (Nat.ge_two_pow_of_testBit z) h)
theorem bits_split {q X : Nat} (h : Msk q X) (hX : X < 2 ^ 24) : (bitsL q ++ bitsL (X - q)).Perm (bitsL X) := by
  have hq : q < 2 ^ 24 := Nat.lt_of_le_of_lt h.le hX
  have hd : X - q < 2 ^ 24 := by omega
  have hsub : ∀ i, q.testBit i = true → X.testBit i = true := fun i hi => by
    have e := congrArg (fun z => z.testBit i) h
    simp only [Nat.testBit_and] at e
    rw [hi] at e
    simpa using e
  refine (List.perm_ext_iff_of_nodup ?_ (bitsL_nd X)).mpr fun i => ?_
  · refine List.nodup_append.mpr ⟨bitsL_nd q, bitsL_nd _, fun a ha b hb e => ?_⟩
    subst e
    have h1 := (mem_bits hq).mp ha
    have h2 := (mem_bits hd).mp hb
    rw [sub_bit a q X h, h1] at h2
    simp at h2
  · rw [List.mem_append, mem_bits hq, mem_bits hd, mem_bits hX, sub_bit i q X h]
    cases h1 : q.testBit i with
    | true => simp [hsub i h1]
    | false => simp
theorem bits_ne {q : Nat} (h0 : 0 < q) (hq : q < 2 ^ 24) : bitsL q ≠ [] := fun z => by
  obtain ⟨k, m, e⟩ := odd_part q h0
  have : k ∈ bitsL q := (mem_bits hq).mpr (by rw [Nat.testBit_eq_decide_div_mod_eq, e, Nat.mul_div_cancel_left _ (Nat.two_pow_pos k)]; exact decide_eq_true (by omega))
  rw [z] at this
  simp at this
theorem bits_all : ∀ n : Nat, n ≤ 8 → bitsL (2 ^ n - 1) = List.range n := by decide
inductive Ch (bs : List (Int × Nat)) : Nat → List Nat → Prop where
  | nil : Ch bs 0 []
  | cons {x : Nat} {v : Int × Nat} {ps : List Nat} : 0 < x → bs[x]? = some v → Ch bs (x - v.2) ps → Ch bs x (v.2 :: ps)
theorem low_in {x : Nat} (h0 : 0 < x) (hx : x < 2 ^ 24) : ∃ k, lowb x = 2 ^ k ∧ k ∈ bitsL x ∧ ∀ i ∈ bitsL x, k ≤ i := by
  obtain ⟨k, m, rfl⟩ := odd_part x h0
  refine ⟨k, lowb_eq k m, (mem_bits hx).mpr ?_, fun i hi => ?_⟩
  · rw [Nat.testBit_eq_decide_div_mod_eq, Nat.mul_div_cancel_left _ (Nat.two_pow_pos k)]
    exact decide_eq_true (by omega)
  · have hb := (mem_bits hx).mp hi
    rcases Nat.lt_or_ge i k with c | c
    · exfalso
      rw [Nat.testBit_eq_decide_div_mod_eq] at hb
      have hb := of_decide_eq_true hb
      have e : 2 ^ k * (2 * m + 1) = 2 ^ i * (2 * (2 ^ (k - i - 1) * (2 * m + 1))) := by
        rw [← Nat.mul_assoc 2, ← Nat.pow_succ', show (k - i - 1).succ = k - i by omega, ← Nat.mul_assoc, ← Nat.pow_add, show i + (k - i) = k by omega]
      rw [e, Nat.mul_div_cancel_left _ (Nat.two_pow_pos i)] at hb
      omega
    · exact c
theorem bit_low {p k : Nat} (h : p &&& 2 ^ k = 2 ^ k) : p.testBit k = true := by
  have e := congrArg (fun z => z.testBit k) h
  simp only [Nat.testBit_and, Nat.testBit_two_pow_self, Bool.and_true] at e
  exact e
theorem low_bit {p k : Nat} (h : p.testBit k = true) : p &&& 2 ^ k = 2 ^ k := by
  refine Nat.eq_of_testBit_eq fun i => ?_
  rw [Nat.testBit_and, Nat.testBit_two_pow]
  by_cases e : k = i
  · subst e; simp [h]
  · simp [e]
theorem head_le {l : List Nat} {k : Nat} (h : l.Pairwise (· < ·)) (hk : k ∈ l) : l.headD 0 ≤ k ∧ l.headD 0 ∈ l := by
  cases l with
  | nil => simp at hk
  | cons a r =>
    refine ⟨?_, List.mem_cons_self⟩
    show a ≤ k
    rcases List.mem_cons.mp hk with z | z
    · omega
    · exact Nat.le_of_lt ((List.pairwise_cons.mp h).1 k z)
structure ChOk (pr : Nat → Int) (x : Nat) (ps : List Nat) (b : Int) : Prop where
  sum : b = (ps.map pr).sum
  prm : (ps.flatMap bitsL).Perm (bitsL x)
  pos : ∀ p ∈ ps, 0 < p ∧ p ≤ x
  up : (ps.map fun p => (bitsL p).headD 0).Pairwise (· < ·)
  low : ∀ p ∈ ps, (bitsL p).headD 0 ∈ bitsL x
theorem ch_ok {pr : Nat → Int} {bs : List (Int × Nat)} (ho : Opt pr bs) (hl : bs.length ≤ 2 ^ 24) {x : Nat} {ps : List Nat} (h : Ch bs x ps) : x < bs.length → ChOk pr x ps (bs.getD x (0, 0)).1 := by
  induction h with
  | nil =>
    intro hx
    have h0 : bs[0]? = some bs[0] := List.getElem?_eq_getElem hx
    have := ho.zero _ h0
    refine ⟨?_, .refl _, by simp, .nil, by simp⟩
    rw [List.getD_eq_getElem?_getD, h0, this]
    rfl
  | cons hx0 hv hc ih =>
    rename_i x v ps
    intro hx
    have hx24 : x < 2 ^ 24 := Nat.lt_of_lt_of_le hx hl
    obtain ⟨hfp, he⟩ := ho.hit x v hx0 hv
    have hle := hfp.le
    have hlp := low_pos hx0
    have i := ih (by omega)
    have hmsk : Msk v.2 x := sub_iff.mp hfp.2
    have hv24 : v.2 < 2 ^ 24 := by omega
    have hd24 : x - v.2 < 2 ^ 24 := by omega
    obtain ⟨k, hk1, hk2, hk3⟩ := low_in hx0 hx24
    have hkv : k ∈ bitsL v.2 := (mem_bits hv24).mpr (bit_low (by rw [← hk1]; exact hfp.1))
    have hsplit := bits_split hmsk hx24
    have hhd := head_le (bitsL_up v.2) hkv
    have hke : (bitsL v.2).headD 0 = k := by
      have h1 : (bitsL v.2).headD 0 ∈ bitsL x := hsplit.subset (List.mem_append_left _ hhd.2)
      have := hk3 _ h1
      omega
    refine ⟨?_, ?_, fun p hp => ?_, ?_, fun p hp => ?_⟩
    · rw [List.getD_eq_getElem?_getD, hv, List.map_cons, List.sum_cons, ← i.sum]
      exact he
    · rw [List.flatMap_cons]
      exact (i.prm.append_left _).trans hsplit
    · rcases List.mem_cons.mp hp with z | z
      · rw [z]; omega
      · have := i.pos p z
        omega
    · rw [List.map_cons, List.pairwise_cons]
      refine ⟨fun y hy => ?_, i.up⟩
      obtain ⟨p, hp, rfl⟩ := List.mem_map.mp hy
      have h1 := i.low p hp
      have h2 : (bitsL p).headD 0 ∈ bitsL x := hsplit.subset (List.mem_append_right _ h1)
      have h3 := hk3 _ h2
      rw [hke]
      have h4 : (bitsL p).headD 0 ≠ k := fun z => by
        rw [z] at h1
        have b1 := (mem_bits hd24).mp h1
        have b2 := (mem_bits hv24).mp hkv
        rw [sub_bit k v.2 x hmsk, b2] at b1
        simp at b1
      omega
    · rcases List.mem_cons.mp hp with z | z
      · rw [z, hke]; exact hk2
      · exact hsplit.subset (List.mem_append_right _ (i.low p z))
theorem sum_perm {l m : List Int} (h : l.Perm m) : l.sum = m.sum := by
  induction h with
  | nil => rfl
  | cons _ _ ih => rw [List.sum_cons, List.sum_cons, ih]
  | swap a b l => simp only [List.sum_cons]; omega
  | trans _ _ h1 h2 => exact h1.trans h2
theorem best_least {pr : Nat → Int} {bs : List (Int × Nat)} (ho : Opt pr bs) (hl : bs.length ≤ 2 ^ 24) : ∀ (x : Nat) (qs : List Nat), x < bs.length → (∀ q ∈ qs, 0 < q ∧ q < 2 ^ 24) → (qs.flatMap bitsL).Perm (bitsL x) → (bs.getD x (0, 0)).1 ≤ (qs.map pr).sum := by
  intro x
  induction x using Nat.strongRecOn with
  | ind x ih =>
    intro qs hx hq hp
    have hx24 : x < 2 ^ 24 := Nat.lt_of_lt_of_le hx hl
    by_cases hx0 : 0 < x
    · obtain ⟨k, hk1, hk2, hk3⟩ := low_in hx0 hx24
      obtain ⟨q0, hq0, hkq⟩ := List.mem_flatMap.mp (hp.symm.subset hk2)
      have hq24 := (hq q0 hq0).2
      obtain ⟨qs', hqs⟩ : ∃ qs', qs.Perm (q0 :: qs') := ⟨qs.erase q0, List.perm_cons_erase hq0⟩
      have hp2 : (bitsL q0 ++ qs'.flatMap bitsL).Perm (bitsL x) := by
        have h1 : (qs.flatMap bitsL).Perm ((q0 :: qs').flatMap bitsL) := hqs.flatMap_right _
        rw [List.flatMap_cons] at h1
        exact h1.symm.trans hp
      have hmsk : Msk q0 x := by
        unfold Msk
        refine Nat.eq_of_testBit_eq fun i => ?_
        rw [Nat.testBit_and]
        cases h1 : q0.testBit i with
        | false => rfl
        | true =>
          have : i ∈ bitsL x := hp2.subset (List.mem_append_left _ ((mem_bits hq24).mpr h1))
          rw [(mem_bits hx24).mp this]
          rfl
      have hfp : FP x q0 := ⟨by rw [hk1]; exact low_bit ((mem_bits hq24).mp hkq), sub_iff.mpr hmsk⟩
      have hle := hfp.le
      have hlp := low_pos hx0
      have hsplit := bits_split hmsk hx24
      have hp3 : (qs'.flatMap bitsL).Perm (bitsL (x - q0)) := (List.perm_append_left_iff (bitsL q0)).mp (hp2.trans hsplit.symm)
      have hx' : bs[x]? = some bs[x] := List.getElem?_eq_getElem hx
      have h1 := ho.low x _ hx0 hx' q0 hfp
      have h2 := ih (x - q0) (by omega) qs' (by omega) (fun q hq' => hq q (hqs.symm.subset (List.mem_cons_of_mem _ hq'))) hp3
      have h3 := sum_perm (hqs.map pr)
      rw [List.map_cons, List.sum_cons] at h3
      rw [List.getD_eq_getElem?_getD, hx', h3]
      show bs[x].1 ≤ _
      omega
    · have e : x = 0 := by omega
      subst e
      have hqe : qs = [] := by
        cases qs with
        | nil => rfl
        | cons q r =>
          exfalso
          have h1 := hq q List.mem_cons_self
          have h2 := bits_ne h1.1 h1.2
          have h3 := hp.length_eq
          rw [List.flatMap_cons, List.length_append] at h3
          have h4 : (bitsL 0).length = 0 := by decide
          have := List.length_pos_iff.mpr h2
          omega
      subst hqe
      have h0 : bs[0]? = some bs[0] := List.getElem?_eq_getElem hx
      have := ho.zero _ h0
      rw [List.getD_eq_getElem?_getD, h0, this]
      exact Int.le_refl _
theorem mask_of : ∀ (b : Nat) (ks : List Nat), b ≤ 24 → ks.Pairwise (· < ·) → (∀ k ∈ ks, k < b) → ∃ m, m < 2 ^ b ∧ bitsL m = ks
  | 0, ks, _, _, h => by
    cases ks with
    | nil => exact ⟨0, by decide, by decide⟩
    | cons a r => exact absurd (h a List.mem_cons_self) (by omega)
  | b + 1, ks, hb, hu, h => by
    by_cases hm : b ∈ ks
    · obtain ⟨l, r, e⟩ := List.append_of_mem hm
      subst e
      have hu2 := List.pairwise_append.mp hu
      have hr : r = [] := by
        cases r with
        | nil => rfl
        | cons c s =>
          exfalso
          have h1 := (List.pairwise_cons.mp hu2.2.1).1 c List.mem_cons_self
          have h2 := h c (List.mem_append_right _ (List.mem_cons_of_mem _ List.mem_cons_self))
          omega
      subst hr
      obtain ⟨m, h1, h2⟩ := mask_of b l (by omega) hu2.1 fun k hk => hu2.2.2 k hk b List.mem_cons_self
      exact ⟨2 ^ b + m, by rw [Nat.pow_succ]; omega, by rw [bitsL_add h1 (by omega), h2]⟩
    · obtain ⟨m, h1, h2⟩ := mask_of b ks (by omega) hu fun k hk => by
        have h1 := h k hk
        have h2 : k ≠ b := fun z => hm (by rw [← z]; exact hk)
        omega
      exact ⟨m, by rw [Nat.pow_succ]; omega, h2⟩
noncomputable def heads (kss : List (List Nat)) : List Nat := kss.map fun ks => ks.headD 0
structure CutP (kss : List (List Nat)) (n : Nat) : Prop where
  ne : ∀ ks ∈ kss, ks ≠ []
  up : ∀ ks ∈ kss, ks.Pairwise (· ≤ ·)
  len : ∀ ks ∈ kss, ks.length ≤ 24
  hd : (heads kss).Pairwise (· ≤ ·)
  all : kss.flatten.Perm (List.range n)
  few : kss.length ≤ 24
noncomputable def spLeast : Sp := fun vs H Q _ => ∃ (l : Addr) (us : List V) (bs : List (Int × Nat)) (pr : Nat → Int), vs = [.ref l] ∧ H l = some (.lst us) ∧ Paired (PrB H) us bs ∧ Opt pr bs ∧ 0 < bs.length ∧ bs.length ≤ 256 ∧ ∀ (p : Addr) (ws : List V) (ps : List Nat) (H' : Hp), Same H H' → H' p = some (.tup ws) → Paired (PAt H') ws (ps.map bitsL) → Ch bs (bs.length - 1) ps → Q (.ref p) H'
theorem ok_least (T : Txt K mg) : L2.Cl P w K mg base 2 "least_cut" ["best"] spLeast := by
  have C_numbers_in := ok_in2 (P := P) (w := w) (base := base) T
  refine Cl.of T.d_least_cut sc_least_cut (fun vs H Q E h => ?_) (fun _ _ _ _ _ _ us hl => by obtain ⟨a, rfl⟩ := len1 hl; rfl) (fun f cdv A outer s H vs Q E hr h => ?_)
  · obtain ⟨l, us, bs, pr, rfl, _⟩ := h
    rfl
  · obtain ⟨l, us, bs, pr, rfl, hl, hus, hopt, hpos, h256, q⟩ := h
    have hul : us.length = bs.length := Paired.length hus
    refine ⟨_, (pss_cons (ps_set (i := 1) sc_least_cut.nd rfl (Or.inl rfl) (pe_lst pa_nil))
      (pss_cons (ps_set (i := 2) sc_least_cut.nd rfl (Or.inl rfl) (pe_op op_sub (pe_callB call_len_seq (by rfl) T.n_len PySem.boot_len (pa_cons (pv 0) pa_nil)) pe_int))
      (pss_cons (ps_while PassesOwn.never (pt_cmpR op_gt (pv 2) pe_int (nomark _))
        (pss_cons (ps_set (i := 3) sc_least_cut.nd rfl (Or.inl rfl) (pe_ix ix_tup (pe_ix ix_list (pv 0) (pv 2) (fun _ _ => rfl)) pe_int (fun _ _ => rfl)))
        (pss_cons (ps_expr (pe_bm PySem.F.plainAttrs_list PySem.F.slot_list_append PySem.F.type_list_append mt_append (pv 1) (pa_cons (pe_fn C_numbers_in hr (by rfl) (pa_cons (pv 3) pa_nil)) pa_nil)))
        (pss_one (ps_aug (i := 2) sc_least_cut.nd rfl (Or.inl rfl) (pv 3) ip_sub)))))
      (pss_one (ps_ret (pe_callTy call_tuple_of (by rfl) T.n_tuple boot_tuple (pa_cons (pv 1) pa_nil))))))), ?_⟩
    refine ⟨(by show 0 ≤ sizeLine; decide), fun C gC => ?_⟩
    have s1 : Same H (upd H C (.lst [])) := (Same.refl H).new gC
    have hC1 : upd H C (.lst []) C = some (.lst []) := upd_same
    generalize upd H C (.lst []) = H1 at s1 hC1 ⊢
    refine ⟨_, rfl, l, _, rfl, .inl (SqL.of (s1 _ _ hl)), _, _, rfl, rfl, ?_⟩
    show gName 2 (V.int ((us.length : Int) - 1)) _ _ _
    rw [show (us.length : Int) - 1 = ((bs.length - 1 : Nat) : Int) by omega]
    refine to_g ?_
    refine ⟨fun m σ H2 => ∃ (done : List Nat) (ws : List V) (v3 : Option V), σ = [some (.ref l), some (.ref C), some (.int (m : Int)), v3] ∧ Same H H2 ∧ H2 C = some (.lst ws) ∧ Paired (PAt H2) ws (done.map bitsL) ∧ m < bs.length ∧ done.length + m < bs.length ∧ ∀ rest, Ch bs m rest → Ch bs (bs.length - 1) (done ++ rest), ⟨bs.length - 1, [], [], none, rfl, s1, hC1, .nil, by omega, by simp; omega, fun rest h => h⟩, ?_⟩
    rintro m σ H2 ⟨done, ws, v3, rfl, s2, hC2, hws, hm, hdl, hch⟩
    have hwl : ws.length = done.length := by rw [Paired.length hws, List.length_map]
    refine ⟨_, rfl, _, _, rfl, rfl, _, rfl, ite2 (fun hc => ?_) (fun hc => ?_)⟩
    · have hm0 : 0 < m := by have := of_decide_eq_true hc; omega
      have hv : bs[m]? = some bs[m] := List.getElem?_eq_getElem hm
      obtain ⟨u, hu, tb, eb, htb⟩ := Paired.get?' hus hv
      subst eb
      obtain ⟨hfp, _⟩ := hopt.hit m _ hm0 hv
      have hle := hfp.le
      have hlp := low_pos hm0
      generalize bs[m] = v at hv htb hfp hle
      have atm : atI us (m : Int) = some (.ref tb) := atI_nat hu
      have z1 : atI [V.int v.1, V.int (v.2 : Int)] 1 = some (.int (v.2 : Int)) := atI_nat (j := 1) rfl
      refine ⟨fun σ' H' => ∃ (done : List Nat) (ws : List V) (v3 : Option V), σ' = [some (.ref l), some (.ref C), some (.int ((m - v.2 : Nat) : Int)), v3] ∧ Same H H' ∧ H' C = some (.lst ws) ∧ Paired (PAt H') ws (done.map bitsL) ∧ m - v.2 < bs.length ∧ done.length + (m - v.2) < bs.length ∧ ∀ rest, Ch bs (m - v.2) rest → Ch bs (bs.length - 1) (done ++ rest), fun σ' H' hN => ⟨_, by omega, hN⟩, ?_⟩
      refine ⟨_, rfl, _, rfl, l, _, _, _, rfl, rfl, SqL.of (s2 _ _ hl), atm, tb, _, _, _, rfl, rfl, SqT.of (s2 _ _ htb), z1, ?_⟩
      refine ⟨_, rfl, .inl ⟨rfl, _, SqL.of hC2⟩, _, rfl, v.2, rfl, Nat.lt_of_lt_of_le (show v.2 < 256 by omega) (by decide), fun p H3 s3 hp => ?_⟩
      have hC3 := s3 _ _ hC2
      refine ⟨C, _, _, rfl, rfl, hC3, small1000 (by omega), ?_⟩
      have T4 := Tups.lst (ys := ws ++ [.ref p]) hC3
      refine ⟨_, rfl, _, rfl, _, _, rfl, rfl, done ++ [v.2], ws ++ [.ref p], _, (by rw [show ((m - v.2 : Nat) : Int) = (m : Int) - (v.2 : Int) by omega]; rfl), (s2.trans s3).put gC, upd_same, ?_, by omega, by rw [List.length_append, List.length_singleton]; omega, fun rest h => ?_⟩
      · rw [List.map_append]
        exact Paired.snoc (Paired.mapP hws fun _ _ z => z.mono (s3.tups.trans T4)) ⟨p, rfl, T4 _ _ hp⟩
      · rw [List.append_assoc]
        exact hch _ (.cons hm0 hv h)
    · have hm0 : m = 0 := by
        have : ¬ ((0 : Int) < (m : Int)) := fun z => hc (decide_eq_true z)
        omega
      subst hm0
      have hfin := hch [] .nil
      rw [List.append_nil] at hfin
      refine ⟨_, rfl, C, _, rfl, .inl ⟨SqL.of hC2, fun p gp => ?_⟩⟩
      have s3 : Same H2 (upd H2 p (.tup ws)) := (Same.refl H2).new gp
      exact q p ws done _ (s2.trans s3) upd_same (Paired.mapP hws fun _ _ z => z.mono s3.tups) hfin
structure Dr (kss : List (List Nat)) (n : Nat) : Prop where
  ne : ∀ ks ∈ kss, ks ≠ []
  up : ∀ ks ∈ kss, ks.Pairwise (· < ·)
  lt : ∀ ks ∈ kss, ∀ k ∈ ks, k < n
  prm : kss.flatten.Perm (List.range n)
theorem masks_of {kss : List (List Nat)} {n : Nat} (hn : n ≤ 24) (h : Dr kss n) : ∃ qs : List Nat, qs.map bitsL = kss ∧ ∀ q ∈ qs, 0 < q ∧ q < 2 ^ 24 := by
  have hall : ∀ ks ∈ kss, ∃ q, bitsL q = ks ∧ 0 < q ∧ q < 2 ^ 24 := fun ks hk => by
    obtain ⟨m, h1, h2⟩ := mask_of n ks hn (h.up ks hk) (h.lt ks hk)
    refine ⟨m, h2, ?_, Nat.lt_of_lt_of_le h1 (Nat.pow_le_pow_right (by decide) hn)⟩
    rcases Nat.eq_zero_or_pos m with z | z
    · exfalso
      rw [z] at h2
      exact h.ne ks hk (by rw [← h2]; decide)
    · exact z
  clear h
  induction kss with
  | nil => exact ⟨[], rfl, by simp⟩
  | cons ks r ih =>
    obtain ⟨q, h1, h2⟩ := hall ks List.mem_cons_self
    obtain ⟨qs, h3, h4⟩ := ih fun x hx => hall x (List.mem_cons_of_mem _ hx)
    refine ⟨q :: qs, by rw [List.map_cons, h1, h3], fun x hx => ?_⟩
    rcases List.mem_cons.mp hx with z | z
    · rw [z]; exact h2
    · exact h4 x z
theorem totP_masks (gs : List Gp) (t : Int) (qs : List Nat) : totP gs t (qs.map bitsL) = (qs.map (prc gs t)).sum := by
  unfold totP
  rw [List.map_map]
  rfl
theorem flat_masks (qs : List Nat) : (qs.map bitsL).flatten = qs.flatMap bitsL := by rw [List.flatMap_def]
theorem ch_cut {pr : Nat → Int} {n : Nat} {ps : List Nat} {b : Int} (hn : n ≤ 8) (h : ChOk pr (2 ^ n - 1) ps b) : CutP (ps.map bitsL) n := by
  have h2 : 2 ^ n ≤ 256 := two_le hn
  have hp24 : ∀ p ∈ ps, p < 2 ^ 24 := fun p hp => by
    have h1 := (h.pos p hp).2
    have h3 : (256 : Nat) ≤ 2 ^ 24 := by decide
    have h4 := Nat.two_pow_pos n
    omega
  refine ⟨fun ks hk => ?_, fun ks hk => ?_, fun ks hk => ?_, ?_, ?_, ?_⟩
  · obtain ⟨p, hp, rfl⟩ := List.mem_map.mp hk
    exact bits_ne (h.pos p hp).1 (hp24 p hp)
  · obtain ⟨p, hp, rfl⟩ := List.mem_map.mp hk
    exact (bitsL_up p).imp fun e => Nat.le_of_lt e
  · obtain ⟨p, hp, rfl⟩ := List.mem_map.mp hk
    exact bitsL_len (n := 24) (hp24 p hp) (by decide)
  · unfold heads
    rw [List.map_map]
    exact h.up.imp fun e => Nat.le_of_lt e
  · rw [flat_masks, ← bits_all n hn]
    exact h.prm
  · rw [List.length_map]
    have h1 := h.prm.length_eq
    rw [bits_all n hn, List.length_range] at h1
    have h3 : ps.length ≤ (ps.flatMap bitsL).length := by
      have hp := h.pos
      clear h h1
      induction ps with
      | nil => simp
      | cons p r ih =>
        have h5 := List.length_pos_iff.mpr (bits_ne (hp p List.mem_cons_self).1 (hp24 p List.mem_cons_self))
        have h6 := ih (fun x hx => hp24 x (List.mem_cons_of_mem _ hx)) fun x hx => hp x (List.mem_cons_of_mem _ hx)
        rw [List.flatMap_cons, List.length_append, List.length_cons]
        omega
    omega
noncomputable def spTight : Sp := fun vs H Q _ => ∃ (a : Addr) (us : List V), vs = [.ref a] ∧ H a = some (.tup us) ∧ us.length ≤ 24 ∧ ∀ (p : Addr) (ws : List V) (H' : Hp), Same H H' → H' p = some (.tup ws) → Paired (PAt H') ws ((List.range us.length).map fun k => [k]) → Q (.ref p) H'
theorem ok_tight (T : Txt K mg) : L2.Cl P w K mg base 1 "tight" ["groups"] spTight := by
  refine Cl.of T.d_tight sc_tight (fun vs H Q E h => ?_) (fun _ _ _ _ _ _ us hl => by obtain ⟨a, rfl⟩ := len1 hl; rfl) (fun f cdv A outer s H vs Q E hr h => ?_)
  · obtain ⟨a, us, rfl, _⟩ := h
    rfl
  · obtain ⟨a, us, rfl, ha, hul, q⟩ := h
    refine ⟨_, (pss_one (ps_ret (pe_callTy call_tuple_of (by rfl) T.n_tuple boot_tuple (pa_cons (pe_comp (M := ["number"]) (ρ := [none]) (defScope s_tight) ["groups"] ⟨rfl, by decide +kernel, by decide +kernel, by decide +kernel, rfl, by decide +kernel, by decide +kernel⟩ (pi_range1 (by rfl) T.n_range (pa_cons (pe_callB call_len_seq (by rfl) T.n_len PySem.boot_len (pa_cons (pv 0) pa_nil)) pa_nil)) (fun _ _ _ _ _ _ => (pg_name (i := 0) (show (["number"] : List Str).Nodup by decide +kernel) rfl (Or.inl rfl))) (fun _ _ _ _ _ _ => pts_nil) (fun _ _ _ _ _ _ => (pe_tup (pa_cons (pv 0) pa_nil)))) pa_nil)))), ?_⟩
    refine ⟨_, rfl, a, _, rfl, .inr (SqT.of ha), _, rfl, by omega, by omega, fun D gD => ?_⟩
    rw [Int.toNat_natCast]
    refine comp_by us.length (fun i σ H2 => ∃ (v0 : Option V) (ws : List V), σ = [v0] ∧ Same H H2 ∧ H2 D = some (.lst ws) ∧ Paired (PAt H2) ws ((List.range i).map fun k => [k])) ⟨_, [], rfl, (Same.refl H).new gD, upd_same, .nil⟩ ?_ ?_
    · rintro i σ H2 hi ⟨v0, ws, rfl, s2, hD, hws⟩
      have hwl : ws.length = i := by
        have := Paired.length hws
        rw [List.length_map, List.length_range] at this
        exact this
      refine ⟨hi, ?_⟩
      rintro x H3 ⟨rfl, rfl⟩
      refine ntG ?_
      refine ⟨_, rfl, (by show 1 ≤ sizeLine; decide), fun t gt => ?_⟩
      have s3 : Same H3 (upd H3 t (.tup [.int (0 + (i : Int))])) := (Same.refl H3).new gt
      have T4 := Tups.lst (ys := ws ++ [.ref t]) (s3 _ _ hD)
      refine ⟨ws, s3 _ _ hD, small1000 (by omega), _, ws ++ [.ref t], rfl, (s2.trans s3).put gD, upd_same, ?_⟩
      rw [List.range_succ, List.map_append]
      refine Paired.snoc (Paired.mapP hws fun _ _ z => z.mono (s3.tups.trans T4)) ⟨t, rfl, T4 _ _ ?_⟩
      rw [upd_same, Int.zero_add]
      rfl
    · rintro σ H2 ⟨v0, ws, rfl, s2, hD, hws⟩
      refine ⟨Nat.le_refl _, ?_⟩
      refine ⟨D, _, rfl, .inl ⟨SqL.of hD, fun p gp => ?_⟩⟩
      have s3 : Same H2 (upd H2 p (.tup ws)) := (Same.refl H2).new gp
      exact q p ws _ (s2.trans s3) upd_same (Paired.mapP hws fun _ _ z => z.mono s3.tups)
noncomputable def oneC (n : Nat) : List (List Nat) := if n = 0 then [] else [List.range n]
noncomputable def spSingle : Sp := fun vs H Q _ => ∃ (a : Addr) (us : List V), vs = [.ref a] ∧ H a = some (.tup us) ∧ us.length ≤ 24 ∧ ∀ (p : Addr) (ws : List V) (H' : Hp), Same H H' → H' p = some (.tup ws) → Paired (PAt H') ws (oneC us.length) → Q (.ref p) H'
theorem ok_single (T : Txt K mg) : L2.Cl P w K mg base 1 "single" ["groups"] spSingle := by
  refine Cl.of T.d_single sc_single (fun vs H Q E h => ?_) (fun _ _ _ _ _ _ us hl => by obtain ⟨a, rfl⟩ := len1 hl; rfl) (fun f cdv A outer s H vs Q E hr h => ?_)
  · obtain ⟨a, us, rfl, _⟩ := h
    rfl
  · obtain ⟨a, us, rfl, ha, hul, q⟩ := h
    refine ⟨_, (pss_cons (ps_if (pt_not (pt_truth (pv 0) (fun _ => rfl)))
        (pss_one (ps_ret (pe_tup pa_nil))) pss_nil)
      (pss_one (ps_ret (pe_tup (pa_cons (pe_trng rfl (pe_callB call_len_seq (by rfl) T.n_len PySem.boot_len (pa_cons (pv 0) pa_nil)) (by rfl) T.n_tuple (by rfl) T.n_range) pa_nil))))), ?_⟩
    refine ⟨_, rfl, _, .inr (.inl ⟨_, SqT.of ha, rfl⟩), ?_⟩
    cases us with
    | nil =>
      refine iteT ?_
      refine ⟨(by show 0 ≤ sizeLine; decide), fun p gp => ?_⟩
      exact q p [] _ ((Same.refl H).new gp) upd_same .nil
    | cons b r =>
      refine iteF ?_
      refine ⟨_, rfl, a, _, rfl, .inr (SqT.of ha), (b :: r).length, rfl, by omega, fun t gt => ⟨by show 1 ≤ sizeLine; decide, fun p gp => ?_⟩⟩
      have s1 := ((Same.refl H).new (o := .tup (rngV (b :: r).length)) gt).new (o := .tup [.ref t]) gp
      refine q p [.ref t] _ s1 upd_same ?_
      have e : oneC (b :: r).length = [List.range (b :: r).length] := by unfold oneC; rw [if_neg (by simp)]
      rw [e]
      exact .cons ⟨t, rfl, upd_keep upd_same gp⟩ .nil
noncomputable def tightC (n : Nat) : List (List Nat) := (List.range n).map fun k => [k]
theorem flat_tight (n : Nat) : (tightC n).flatten = List.range n := by
  unfold tightC
  induction n with
  | zero => rfl
  | succ n ih => rw [List.range_succ, List.map_append, List.flatten_append, ih]; rfl
theorem dr_tight (n : Nat) : Dr (tightC n) n := by
  refine ⟨fun ks hk => ?_, fun ks hk => ?_, fun ks hk k hkk => ?_, by rw [flat_tight]⟩
  all_goals (obtain ⟨j, hj, rfl⟩ := List.mem_map.mp hk)
  · simp
  · simp
  · rw [List.mem_singleton.mp hkk]; exact List.mem_range.mp hj
theorem dr_one (n : Nat) : Dr (oneC n) n := by
  unfold oneC
  by_cases h : n = 0
  · rw [if_pos h, h]
    exact ⟨fun ks hk => (by cases hk), fun ks hk => (by cases hk), fun ks hk => (by cases hk), List.Perm.refl _⟩
  · rw [if_neg h]
    refine ⟨fun ks hk => ?_, fun ks hk => ?_, fun ks hk k hkk => ?_, by simp⟩
    all_goals (have e := List.mem_singleton.mp hk; subst e)
    · intro z
      have := congrArg List.length z
      rw [List.length_range] at this
      exact h this
    · exact List.pairwise_lt_range
    · exact List.mem_range.mp hkk
structure Cut9 (kss : List (List Nat)) (n : Nat) : Prop where
  prm : kss.flatten.Perm (List.range n)
  few : kss.length ≤ 24
theorem Cut9.lt {kss : List (List Nat)} {n : Nat} (h : Cut9 kss n) : ∀ ks ∈ kss, ∀ k ∈ ks, k < n := fun ks hk k hkk =>
  List.mem_range.mp (h.prm.mem_iff.mp (List.mem_flatten.mpr ⟨ks, hk, hkk⟩))
theorem cut9_tight {n : Nat} (hn : n ≤ 24) : Cut9 (tightC n) n := ⟨(dr_tight n).prm, by unfold tightC; rw [List.length_map, List.length_range]; exact hn⟩
theorem cut9_one (n : Nat) : Cut9 (oneC n) n := ⟨(dr_one n).prm, by unfold oneC; split <;> simp⟩
noncomputable def spCheap9 : Sp := fun vs H Q _ => ∃ (a : Addr) (us : List V) (gs : List Gp) (t : Int), vs = [.ref a, .int t] ∧ H a = some (.tup us) ∧ Paired (GAt H) us gs ∧ GsOk gs ∧ gs.length ≤ 24 ∧ ∀ (p : Addr) (ws : List V) (kss : List (List Nat)) (H' : Hp), Same H H' → H' p = some (.tup ws) → Paired (PAt H') ws kss → Cut9 kss gs.length → totP gs t kss ≤ totP gs t (tightC gs.length) → totP gs t kss ≤ totP gs t (oneC gs.length) → Q (.ref p) H'
theorem ok_cheap9 (T : Txt K mg) : L2.Cl P w K mg base 4 "cheapest" ["groups", "toll"] spCheap9 := by
  have C_best_packs := ok_best (P := P) (w := w) (base := base) T
  have C_least_cut := ok_least (P := P) (w := w) (base := base) T
  have C_tight := ok_tight (P := P) (w := w) (base := base) T
  have C_single := ok_single (P := P) (w := w) (base := base) T
  have C_price := ok_price (P := P) (w := w) (base := base) T
  refine Cl.of T.d_cheapest sc_cheapest (fun vs H Q E h => ?_) (fun _ _ _ _ _ _ us hl => by obtain ⟨a, b, rfl⟩ := len2 hl; rfl) (fun f cdv A outer s H vs Q E hr h => ?_)
  · obtain ⟨a, us, gs, t, rfl, _⟩ := h
    rfl
  · obtain ⟨a, us, gs, t, rfl, ha, hus, hok, hg24, q⟩ := h
    have hul : us.length = gs.length := Paired.length hus
    refine ⟨_, (pss_cons (ps_if (pt_cmpR op_le (pe_callB call_len_seq (by rfl) T.n_len PySem.boot_len (pa_cons (pv 0) pa_nil)) (pe_globS T.g_MOST_GROUPS (by rfl)) (nomark _))
        (pss_one (ps_ret (pe_fn C_least_cut hr (by rfl) (pa_cons (pe_fn C_best_packs hr (by rfl) (pa_cons (pv 0) (pa_cons (pv 1) pa_nil))) pa_nil)))) pss_nil)
      (pss_cons (ps_set (i := 2) sc_cheapest.nd rfl (Or.inl rfl) (pe_fn C_tight hr (by rfl) (pa_cons (pv 0) pa_nil)))
      (pss_cons (ps_set (i := 3) sc_cheapest.nd rfl (Or.inl rfl) (pe_fn C_single hr (by rfl) (pa_cons (pv 0) pa_nil)))
      (pss_cons (ps_if (pt_cmpR op_le (pe_fn C_price hr (by rfl) (pa_cons (pv 0) (pa_cons (pv 1) (pa_cons (pv 2) pa_nil)))) (pe_fn C_price hr (by rfl) (pa_cons (pv 0) (pa_cons (pv 1) (pa_cons (pv 3) pa_nil)))) (nomark _))
        (pss_one (ps_ret (pv 2))) pss_nil)
      (pss_one (ps_ret (pv 3))))))), ?_⟩
    refine ⟨_, rfl, a, _, rfl, .inr (SqT.of ha), _, _, rfl, rfl, _, rfl, ite2 (fun hc => ?_) (fun hc => ?_)⟩
    · have hg8 : gs.length ≤ 8 := by have := of_decide_eq_true hc; omega
      have h256 : 2 ^ gs.length ≤ 256 := two_le hg8
      have hpos : 0 < 2 ^ gs.length := Nat.two_pow_pos _
      refine ⟨_, rfl, _, rfl, a, us, gs, t, rfl, ha, hus, hok, hg8, fun l vs bs H1 s1 hl hvs hopt hbl => ?_⟩
      refine ⟨l, vs, bs, prc gs t, rfl, hl, hvs, hopt, by omega, by omega, fun p ws ps H2 s2 hp hws hch => ?_⟩
      rw [hbl] at hch
      have hco := ch_ok hopt (by rw [hbl]; have h3 : (256 : Nat) ≤ 2 ^ 24 := by decide
                                 omega) hch (by rw [hbl]; omega)
      have hbest := hco.sum
      have hcut := ch_cut hg8 hco
      have hbound : ∀ kss, Dr kss gs.length → totP gs t (ps.map bitsL) ≤ totP gs t kss := fun kss hd => by
        obtain ⟨qs, h1, h2⟩ := masks_of (by omega) hd
        have h3 := hd.prm
        rw [← h1, flat_masks, ← bits_all gs.length hg8] at h3
        have h4 := best_least hopt (by rw [hbl]; have h5 : (256 : Nat) ≤ 2 ^ 24 := by decide
                                       omega) (2 ^ gs.length - 1) qs (by omega) h2 h3
        rw [hbest, ← totP_masks, ← totP_masks, h1] at h4
        exact h4
      refine q p ws (ps.map bitsL) H2 (s1.trans s2) hp hws ⟨?_, ?_⟩ (hbound _ (dr_tight _)) (hbound _ (dr_one _))
      · rw [flat_masks]
        have := hco.prm
        rw [bits_all gs.length hg8] at this
        exact this
      · exact hcut.few
    · refine ⟨_, rfl, a, us, rfl, ha, by omega, fun p1 ws1 H1 s1 hp1 hw1 => ?_⟩
      refine ⟨_, rfl, a, us, rfl, s1 _ _ ha, by omega, fun p2 ws2 H2 s2 hp2 hw2 => ?_⟩
      rw [hul] at hw1 hw2
      have s12 := s1.trans s2
      have c1 := cut9_tight hg24
      have c2 := cut9_one gs.length
      have hw1' : Paired (PAt H2) ws1 (tightC gs.length) := Paired.mapP hw1 fun _ _ z => z.mono s2.tups
      refine ⟨_, rfl, _, rfl, _, rfl, a, p1, us, gs, t, tightC gs.length, rfl, s12 _ _ ha, Paired.mapP hus fun _ _ z => z.mono s12.tups, hok, ⟨ws1, s2 _ _ hp1, hw1', c1.lt, c1.few⟩, fun H3 s3 => ?_⟩
      have s13 := s12.trans s3
      have hw2' : Paired (PAt H3) ws2 (oneC gs.length) := Paired.mapP hw2 fun _ _ z => z.mono s3.tups
      refine ⟨_, rfl, _, rfl, _, rfl, a, p2, us, gs, t, oneC gs.length, rfl, s13 _ _ ha, Paired.mapP hus fun _ _ z => z.mono s13.tups, hok, ⟨ws2, s3 _ _ hp2, hw2', c2.lt, c2.few⟩, fun H4 s4 => ?_⟩
      have s14 := s13.trans s4
      refine ⟨_, _, rfl, rfl, _, rfl, ite2 (fun hle => ?_) (fun hle => ?_)⟩
      · exact ⟨_, rfl, q p1 ws1 _ H4 s14 ((s3.trans s4) _ _ (s2 _ _ hp1)) (Paired.mapP hw1' fun _ _ z => z.mono (s3.trans s4).tups) c1 (Int.le_refl _) (of_decide_eq_true hle)⟩
      · refine ⟨_, rfl, q p2 ws2 _ H4 s14 ((s3.trans s4) _ _ hp2) (Paired.mapP hw2' fun _ _ z => z.mono s4.tups) c2 ?_ (Int.le_refl _)⟩
        have := of_decide_eq_false (by simpa using hle : decide (totP gs t (tightC gs.length) ≤ totP gs t (oneC gs.length)) = false)
        omega
noncomputable def NAt (H : Hp) (v : V) (ns : List Str) : Prop := ∃ t tn x y, v = .ref t ∧ H t = some (.tup [x, .ref tn, y]) ∧ H tn = some (.tup (ns.map V.str))
noncomputable def LAt (L : Addr) (H : Hp) (v : V) (ns : List Str) : Prop := ∃ p, v = .ref p ∧ p ≠ L ∧ H p = some (.lst (ns.map V.str))
theorem NAt.mono {H H' : Hp} (s : Tups H H') {v : V} {ns : List Str} (h : NAt H v ns) : NAt H' v ns := by
  obtain ⟨t, tn, x, y, e, h1, h2⟩ := h
  exact ⟨t, tn, x, y, e, s _ _ h1, s _ _ h2⟩
theorem LAt.same {L : Addr} {H H' : Hp} (s : Same H H') {v : V} {ns : List Str} (h : LAt L H v ns) : LAt L H' v ns := by
  obtain ⟨p, e, n, h1⟩ := h
  exact ⟨p, e, n, s _ _ h1⟩
theorem LAt.upd {L : Addr} {H : Hp} {o : HO} {v : V} {ns : List Str} (h : LAt L H v ns) : LAt L (upd H L o) v ns := by
  obtain ⟨p, e, n, h1⟩ := h
  exact ⟨p, e, n, by rw [upd_ne n]; exact h1⟩
noncomputable def packN (nss : List (List Str)) (ks : List Nat) : List Str := ks.flatMap fun k => nss.getD k []
theorem packN_snoc (nss : List (List Str)) (ks : List Nat) (k : Nat) : packN nss (ks ++ [k]) = packN nss ks ++ nss.getD k [] := by unfold packN; rw [List.flatMap_append]; simp
theorem packN_len {nss : List (List Str)} (h : ∀ ns ∈ nss, ns.length ≤ 24) : ∀ ks : List Nat, (packN nss ks).length ≤ 24 * ks.length
  | [] => by simp [packN]
  | k :: r => by
    have ih := packN_len h r
    have h1 : (nss.getD k []).length ≤ 24 := by
      rw [List.getD_eq_getElem?_getD]
      cases e : nss[k]? with
      | none => simp
      | some x => exact h x (List.mem_of_getElem? e)
    show ((nss.getD k []) ++ packN nss r).length ≤ _
    rw [List.length_append, List.length_cons]
    omega
theorem na_get {H : Hp} {us : List V} {nss : List (List Str)} (h : Paired (NAt H) us nss) {k : Nat} (hk : k < nss.length) : ∃ t tn x y, atI us (k : Int) = some (.ref t) ∧ H t = some (.tup [x, .ref tn, y]) ∧ H tn = some (.tup ((nss.getD k []).map V.str)) := by
  have e : nss[k]? = some nss[k] := List.getElem?_eq_getElem hk
  obtain ⟨v, hv, t, tn, x, y, rfl, h1, h2⟩ := Paired.get?' h e
  refine ⟨t, tn, x, y, atI_nat hv, h1, ?_⟩
  rw [List.getD_eq_getElem?_getD, e]
  exact h2
noncomputable def spPacks : Sp := fun vs H Q _ => ∃ (a c : Addr) (us ws : List V) (nss : List (List Str)) (kss : List (List Nat)), vs = [.ref a, .ref c] ∧ H a = some (.tup us) ∧ Paired (NAt H) us nss ∧ (∀ ns ∈ nss, ns.length ≤ 24) ∧ H c = some (.tup ws) ∧ Paired (PAt H) ws kss ∧ Cut9 kss nss.length ∧ nss.length ≤ 24 ∧
  ∀ (l : Addr) (vs : List V) (H' : Hp), Same H H' → H' l = some (.lst vs) → Paired (LAt l H') vs (kss.map (packN nss)) → Q (.ref l) H'
theorem cut9_len {kss : List (List Nat)} {n : Nat} (h : Cut9 kss n) : ∀ ks ∈ kss, ks.length ≤ n := fun ks hk => by
  have h1 := h.prm.length_eq
  rw [List.length_range, List.length_flatten] at h1
  have : ks.length ≤ (kss.map List.length).sum := by
    clear h h1
    induction kss with
    | nil => cases hk
    | cons a r ih =>
      rw [List.map_cons, List.sum_cons]
      rcases List.mem_cons.mp hk with z | z
      · rw [z]; omega
      · have := ih z; omega
  omega
theorem ok_packs (T : Txt K mg) : L2.Cl P w K mg base 1 "_law_packs" ["_law_told", "_law_cut"] spPacks := by
  refine Cl.of T.d_law_packs sc_law_packs (fun vs H Q E h => ?_) (fun _ _ _ _ _ _ us hl => by obtain ⟨a, b, rfl⟩ := len2 hl; rfl) (fun f cdv A outer s H vs Q E hr h => ?_)
  · obtain ⟨a, c, us, ws, nss, kss, rfl, _⟩ := h
    rfl
  · obtain ⟨a, c, us, ws, nss, kss, rfl, ha, hus, hns, hc, hws, hcut, hnl, q⟩ := h
    have hwl : ws.length = kss.length := Paired.length hws
    have hfew := hcut.few
    refine ⟨_, (pss_cons (ps_set (i := 2) sc_law_packs.nd rfl (Or.inl rfl) (pe_lst pa_nil))
      (pss_cons (ps_for PassesOwn.never rfl (pi_tup (pv 1)) (pg_name (i := 3) sc_law_packs.nd rfl (Or.inl rfl))
        (pss_cons (ps_set (i := 4) sc_law_packs.nd rfl (Or.inl rfl) (pe_lst pa_nil))
        (pss_cons (ps_for PassesOwn.never rfl (pi_tup (pv 3)) (pg_name (i := 5) sc_law_packs.nd rfl (Or.inl rfl))
          (pss_one (ps_expr (pe_bm PySem.F.plainAttrs_list PySem.F.slot_list_extend PySem.F.type_list_extend mt_extendT (pv 4) (pa_cons (pe_ix ix_tup (pe_ix ix_tup (pv 0) (pv 5) (fun _ _ => rfl)) pe_int (fun _ _ => rfl)) pa_nil)))))
        (pss_one (ps_expr (pe_bm PySem.F.plainAttrs_list PySem.F.slot_list_append PySem.F.type_list_append mt_append (pv 2) (pa_cons (pv 4) pa_nil)))))))
      (pss_one (ps_ret (pv 2))))), ?_⟩
    refine ⟨(by show 0 ≤ sizeLine; decide), fun L gL => ?_⟩
    refine ⟨_, rfl, c, rfl, ⟨_, SqT.of (upd_keep hc gL)⟩, for_tup (K := K) (a := c) (xs := ws) (fun i σ H2 => ∃ (vs : List V) (v3 v4 v5 : Option V), σ = [some (.ref a), some (.ref c), some (.ref L), v3, v4, v5] ∧ Same H H2 ∧ H2 L = some (.lst vs) ∧ Paired (LAt L H2) vs ((kss.take i).map (packN nss)))
      ⟨[], none, none, none, rfl, (Same.refl H).new gL, upd_same, .nil⟩ (fun i σ H2 _ ⟨_, _, _, _, _, s2, _⟩ => SqT.of (s2 _ _ hc)) ?_ ?_⟩
    · rintro i y σ H2 hy ⟨vs, v3, v4, v5, rfl, s2, hL2, hvs⟩
      obtain ⟨ks, hks, b, rfl, hb⟩ := Paired.get? hws hy
      have hb2 := s2 _ _ hb
      have hil : i < kss.length := (List.getElem?_eq_some_iff.mp hks).1
      have hkl := cut9_len hcut ks (List.mem_of_getElem? hks)
      refine ⟨(by show 0 ≤ sizeLine; decide), fun p gp => ?_⟩
      have hpL : p ≠ L := fun z => by rw [z, hL2] at gp; cases gp
      have hp0 : H p = none := s2.free gp
      refine ⟨_, rfl, b, rfl, ⟨_, SqT.of (upd_keep hb2 gp)⟩, for_tup (K := K) (a := b) (xs := natsV ks) (fun j σ H3 => ∃ v5 : Option V, σ = [some (.ref a), some (.ref c), some (.ref L), some (.ref b), some (.ref p), v5] ∧ Same H2 H3 ∧ H3 p = some (.lst ((packN nss (ks.take j)).map V.str)))
        ⟨v5, rfl, (Same.refl H2).new gp, upd_same⟩ (fun j σ H3 _ ⟨_, _, s3, _⟩ => SqT.of (s3 _ _ hb2)) ?_ ?_⟩
      · rintro j z σ H3 hz ⟨v5, rfl, s3, hp3⟩
        obtain ⟨k, hk, rfl⟩ := natsV_get hz
        have hkn : k < nss.length := hcut.lt ks (List.mem_of_getElem? hks) k (List.mem_of_getElem? hk)
        have s23 := s2.trans s3
        obtain ⟨t, tn, x, y, hat, ht, htn⟩ := na_get (Paired.mapP hus fun _ _ z => z.mono s23.tups) hkn
        have hjl : j < ks.length := (List.getElem?_eq_some_iff.mp hk).1
        have hpl := packN_len hns (ks.take j)
        have hpl2 := packN_len hns [k]
        have e1 : (ks.take j).length ≤ 24 := by rw [List.length_take]; omega
        have e2 : packN nss [k] = nss.getD k [] := by unfold packN; simp
        rw [e2] at hpl2
        refine ⟨_, rfl, .inl ⟨rfl, _, SqL.of hp3⟩, _, rfl, _, rfl, a, _, _, _, rfl, rfl, SqT.of (s23 _ _ ha), hat, t, _, _, _, rfl, rfl, SqT.of ht, atI_nat (j := 1) rfl, p, tn, _, _, rfl, rfl, hp3, SqT.of htn, ?_, ?_⟩
        · rw [List.length_map, List.length_map]
          have : sizeLine = 16777216 := sizeLine_eq
          have h3 : (nss.getD k []).length ≤ 24 * 1 := hpl2
          omega
        · refine ⟨_, rfl, s3.put gp, ?_⟩
          rw [upd_same, take_succ_get hk, packN_snoc, List.map_append]
      · rintro σ H3 ⟨v5, rfl, s3, hp3⟩
        rw [natsV_len, List.take_length] at hp3
        have hL3 : H3 L = some (.lst vs) := s3 _ _ hL2
        have hvl : vs.length = i := by rw [Paired.length hvs, List.length_map, List.length_take]; omega
        refine ⟨_, rfl, .inl ⟨rfl, _, SqL.of hL3⟩, _, rfl, L, _, _, rfl, rfl, hL3, small1000 (by omega), ?_⟩
        refine ⟨vs ++ [.ref p], _, _, _, rfl, (s2.trans s3).put gL, upd_same, ?_⟩
        rw [take_succ_get hks, List.map_append]
        exact Paired.snoc (Paired.mapP hvs fun _ _ z => (z.same s3).upd) ⟨p, rfl, hpL, by rw [upd_ne hpL]; exact hp3⟩
    · rintro σ H2 ⟨vs, v3, v4, v5, rfl, s2, hL2, hvs⟩
      rw [hwl, List.take_length] at hvs
      exact ⟨_, rfl, q L vs H2 s2 hL2 hvs⟩
noncomputable def inL (n : Str) (L : List Str) : Bool := decide (n ∈ L)
noncomputable def WAt (H : Hp) (v : V) (ns : List Str) : Prop := ∃ p, v = .ref p ∧ H p = some (.lst (ns.map V.str))
theorem WAt.same {H H' : Hp} (s : Same H H') {v : V} {ns : List Str} (h : WAt H v ns) : WAt H' v ns := by
  obtain ⟨p, e, h1⟩ := h
  exact ⟨p, e, s _ _ h1⟩
theorem LAt.wat {L : Addr} {H : Hp} {v : V} {ns : List Str} (h : LAt L H v ns) : WAt H v ns := by
  obtain ⟨p, e, _, h1⟩ := h
  exact ⟨p, e, h1⟩
noncomputable def cntL (n : Str) (Ls : List (List Str)) : Nat := (Ls.filter (inL n)).length
noncomputable def spEach : Sp := fun vs H Q _ => ∃ (nl cl pl : Addr) (nms : List Str) (cs ps : List V) (ways packs : List (List Str)), vs = [.ref nl, .ref cl, .ref pl] ∧ H nl = some (.lst (nms.map V.str)) ∧ H cl = some (.lst cs) ∧ Paired (WAt H) cs ways ∧ H pl = some (.lst ps) ∧ Paired (WAt H) ps packs ∧ nms.length ≤ 24 ∧ ways.length ≤ 24 ∧ packs.length ≤ 24 ∧
  (∀ n ∈ nms, cntL n packs = if cntL n ways = 0 then 0 else 1) ∧ ∀ H', Same H H' → Q (.bl true) H'
theorem ok_each (T : Txt K mg) : L2.Cl P w K mg base 1 "_law_each_once" ["_law_names_here", "_law_come_here", "_law_packs_here"] spEach := by
  refine Cl.of T.d_law_each_once sc_law_each_once (fun vs H Q E h => ?_) (fun _ _ _ _ _ _ us hl => by obtain ⟨a, b, c, rfl⟩ := len3 hl; rfl) (fun f cdv A outer s H vs Q E hr h => ?_)
  · obtain ⟨nl, cl, pl, nms, cs, ps, ways, packs, rfl, _⟩ := h
    rfl
  · obtain ⟨nl, cl, pl, nms, cs, ps, ways, packs, rfl, hnl, hcl, hcs, hpl, hps, hn24, hw24, hp24, hall, q⟩ := h
    have hu0 := Nat.lt_of_succ_lt (hu_of hr)
    have hcsl : cs.length = ways.length := Paired.length hcs
    have hpsl : ps.length = packs.length := Paired.length hps
    refine ⟨_, (pss_cons (ps_for PassesOwn.never rfl (pi_list (pv 0)) (pg_name (i := 3) sc_law_each_once.nd rfl (Or.inr rfl))
        (pss_cons (ps_set (i := 4) sc_law_each_once.nd rfl (Or.inl rfl) (pe_callTy call_int1 (by rfl) T.n_int boot_int (pa_cons (pe_cmpR (op_neL_nil hu0) (pe_comp (M := ["_law_way", "_law_name"]) (ρ := [none, some 3]) (defScope s_law_each_once) ["_law_names_here", "_law_come_here", "_law_packs_here", "_law_name", "_law_due"] ⟨rfl, by decide +kernel, by decide +kernel, by decide +kernel, rfl, by decide +kernel, by decide +kernel⟩ (pi_list (pv 1)) (fun _ _ _ _ _ _ => (pg_name (i := 0) (show (["_law_way", "_law_name"] : List Str).Nodup by decide +kernel) rfl (Or.inl rfl))) (fun _ _ _ _ _ _ => (pts_one (pt_cmpR (op_in_seqK (K := K) rfl) (pv 1) (pv 0) (by with_unfolding_all rfl)))) (fun _ _ _ _ _ _ => (pv 0))) (pe_lst pa_nil) (nomark _)) pa_nil)))
        (pss_one (ps_if (pt_cmpR op_ne (pe_callB call_len_seq (by rfl) T.n_len PySem.boot_len (pa_cons (pe_comp (M := ["_law_some_here", "_law_name"]) (ρ := [none, some 3]) (defScope s_law_each_once) ["_law_names_here", "_law_come_here", "_law_packs_here", "_law_name", "_law_due"] ⟨rfl, by decide +kernel, by decide +kernel, by decide +kernel, rfl, by decide +kernel, by decide +kernel⟩ (pi_list (pv 2)) (fun _ _ _ _ _ _ => (pg_name (i := 0) (show (["_law_some_here", "_law_name"] : List Str).Nodup by decide +kernel) rfl (Or.inl rfl))) (fun _ _ _ _ _ _ => (pts_one (pt_cmpR (op_in_seqK (K := K) rfl) (pv 1) (pv 0) (by with_unfolding_all rfl)))) (fun _ _ _ _ _ _ => (pv 0))) pa_nil)) (pv 4) (nomark _))
          (pss_one (ps_ret pe_bl)) pss_nil))))
      (pss_one (ps_ret pe_bl))), ?_⟩
    refine ⟨_, rfl, nl, rfl, ⟨_, SqL.of hnl⟩, for_list (K := K) (a := nl) (xs := nms.map V.str) (fun i σ H2 => ∃ v3 v4 : Option V, σ = [some (.ref nl), some (.ref cl), some (.ref pl), v3, v4] ∧ Same H H2)
      ⟨none, none, rfl, Same.refl H⟩ (fun i σ H2 _ ⟨_, _, _, s2⟩ => SqL.of (s2 _ _ hnl)) ?_ ?_⟩
    · rintro i y σ H2 hy ⟨v3, v4, rfl, s2⟩
      obtain ⟨n, hn, rfl⟩ : ∃ n, nms[i]? = some n ∧ y = .str n := by
        rw [List.getElem?_map] at hy
        obtain ⟨n, h1, h2⟩ := Option.map_eq_some_iff.mp hy
        exact ⟨n, h1, h2.symm⟩
      have hnm : n ∈ nms := List.mem_of_getElem? hn
      refine ⟨_, rfl, cl, rfl, ⟨_, SqL.of (s2 _ _ hcl)⟩, fun D gD => ?_⟩
      refine comp_lst (K := K) (a := cl) (xs := cs) (fun j σ H3 => ∃ (v0 : Option V) (ys : List V), σ = [v0, some (.str n)] ∧ Same H2 H3 ∧ H3 D = some (.lst ys) ∧ ys.length = cntL n (ways.take j)) ⟨_, [], rfl, (Same.refl H2).new gD, upd_same, rfl⟩ (fun j σ H3 ⟨_, _, _, s3, _⟩ => SqL.of (s3 _ _ (s2 _ _ hcl))) ?_ ?_
      · rintro j x σ H3 hx ⟨v0, ys, rfl, s3, hD, hyl⟩
        obtain ⟨w1, hw1, p, rfl, hp⟩ := Paired.get? hcs hx
        have hfl := List.length_filter_le (inL n) (ways.take j)
        rw [List.length_take] at hfl
        have hyl' : ys.length ≤ 24 := by rw [hyl]; unfold cntL; omega
        refine ⟨_, rfl, _, rfl, p, _, rfl, .inl (SqL.of ((s2.trans s3) _ _ hp)), rfl, strs_flat _, _, rfl, ?_⟩
        rw [if_neg Bool.false_ne_true, inV_strs]
        cases hb : decide (n ∈ w1) with
        | true =>
          refine iteT ⟨_, rfl, _, hD, small1000 (by omega), _, ys ++ [.ref p], rfl, s3.put gD, upd_same, ?_⟩
          unfold cntL at hyl ⊢
          rw [filt_snoc hw1, if_pos (show inL n w1 = true from hb), List.length_append, List.length_append, hyl]
          rfl
        | false =>
          refine iteF ⟨_, ys, rfl, s3, hD, ?_⟩
          unfold cntL at hyl ⊢
          rw [filt_snoc hw1, if_neg (by unfold inL; rw [hb]; decide), List.append_nil]
          exact hyl
      · rintro σ H3 ⟨v0, ys, rfl, s3, hD, hyl⟩
        rw [hcsl, List.take_of_length_le (Nat.le_refl _)] at hyl
        have s23 := s2.trans s3
        refine ⟨(by show 0 ≤ sizeLine; decide), fun e ge => ⟨D, e, ys, rfl, rfl, SqL.of (upd_keep hD ge), SqL.of upd_same, .inr ⟨_, rfl, ?_⟩⟩⟩
        have s24 := s23.new (o := .lst []) ge
        refine ⟨_, rfl, pl, rfl, ⟨_, SqL.of (s24 _ _ hpl)⟩, fun D2 gD2 => ?_⟩
        refine comp_lst (K := K) (a := pl) (xs := ps) (fun j σ H5 => ∃ (v0 : Option V) (zs : List V), σ = [v0, some (.str n)] ∧ Same (upd H3 e (.lst [])) H5 ∧ H5 D2 = some (.lst zs) ∧ zs.length = cntL n (packs.take j)) ⟨_, [], rfl, (Same.refl _).new gD2, upd_same, rfl⟩ (fun j σ H5 ⟨_, _, _, s5, _⟩ => SqL.of (s5 _ _ (s24 _ _ hpl))) ?_ ?_
        · rintro j x σ H5 hx ⟨v0, zs, rfl, s5, hD5, hzl⟩
          obtain ⟨w1, hw1, p, rfl, hp⟩ := Paired.get? hps hx
          have hfl := List.length_filter_le (inL n) (packs.take j)
          rw [List.length_take] at hfl
          have hzl' : zs.length ≤ 24 := by rw [hzl]; unfold cntL; omega
          refine ⟨_, rfl, _, rfl, p, _, rfl, .inl (SqL.of ((s24.trans s5) _ _ hp)), rfl, strs_flat _, _, rfl, ?_⟩
          rw [if_neg Bool.false_ne_true, inV_strs]
          cases hb : decide (n ∈ w1) with
          | true =>
            refine iteT ⟨_, rfl, _, hD5, small1000 (by omega), _, zs ++ [.ref p], rfl, s5.put gD2, upd_same, ?_⟩
            unfold cntL at hzl ⊢
            rw [filt_snoc hw1, if_pos (show inL n w1 = true from hb), List.length_append, List.length_append, hzl]
            rfl
          | false =>
            refine iteF ⟨_, zs, rfl, s5, hD5, ?_⟩
            unfold cntL at hzl ⊢
            rw [filt_snoc hw1, if_neg (by unfold inL; rw [hb]; decide), List.append_nil]
            exact hzl
        · rintro σ H5 ⟨v0, zs, rfl, s5, hD5, hzl⟩
          rw [hpsl, List.take_of_length_le (Nat.le_refl _)] at hzl
          refine ⟨D2, _, rfl, .inl (SqL.of hD5), _, rfl, rfl, _, rfl, iteNS ?_ ⟨_, _, rfl, s24.trans s5⟩⟩
          rw [hzl, hall n hnm, ← hyl]
          cases ys with
          | nil => rfl
          | cons z r => rfl
    · rintro σ H2 ⟨v3, v4, rfl, s2⟩
      exact q H2 s2
noncomputable def metN (ns way : List Str) : List Str := ns.filter fun n => decide (n ∈ way)
noncomputable def spApart : Sp := fun vs H Q _ => ∃ (cl pl : Addr) (cs ps : List V) (ways packs : List (List Str)), vs = [.ref cl, .ref pl] ∧ H cl = some (.lst cs) ∧ Paired (WAt H) cs ways ∧ H pl = some (.lst ps) ∧ Paired (WAt H) ps packs ∧ (∀ p ∈ packs, p.length ≤ 600) ∧
  (∀ p ∈ packs, ∀ y ∈ ways, (metN p y).length = 0 ∨ (metN p y).length = p.length) ∧ ∀ H', Same H H' → Q (.bl true) H'
theorem met_snoc {ns way : List Str} {j : Nat} {x : Str} (h : ns[j]? = some x) : metN (ns.take (j + 1)) way = metN (ns.take j) way ++ if x ∈ way then [x] else [] := by
  unfold metN
  rw [filt_snoc h]
  by_cases z : x ∈ way
  · rw [if_pos (decide_eq_true z), if_pos z]
  · rw [if_neg (by rw [decide_eq_false z]; decide), if_neg z]
theorem met_len (ns way : List Str) : (metN ns way).length ≤ ns.length := List.length_filter_le _ _
theorem strs_get {ns : List Str} {j : Nat} {y : V} (h : (ns.map V.str)[j]? = some y) : ∃ n, ns[j]? = some n ∧ y = .str n := by
  rw [List.getElem?_map] at h
  obtain ⟨n, h1, h2⟩ := Option.map_eq_some_iff.mp h
  exact ⟨n, h1, h2.symm⟩
theorem ok_apart (T : Txt K mg) : L2.Cl P w K mg base 1 "_law_apart" ["_law_come_here", "_law_packs_here"] spApart := by
  refine Cl.of T.d_law_apart sc_law_apart (fun vs H Q E h => ?_) (fun _ _ _ _ _ _ us hl => by obtain ⟨a, b, rfl⟩ := len2 hl; rfl) (fun f cdv A outer s H vs Q E hr h => ?_)
  · obtain ⟨cl, pl, cs, ps, ways, packs, rfl, _⟩ := h
    rfl
  · obtain ⟨cl, pl, cs, ps, ways, packs, rfl, hcl, hcs, hpl, hps, h600, hall, q⟩ := h
    refine ⟨_, (pss_cons (ps_for PassesOwn.never rfl (pi_list (pv 1)) (pg_name (i := 2) sc_law_apart.nd rfl (Or.inl rfl))
        (pss_one (ps_for PassesOwn.never rfl (pi_list (pv 0)) (pg_name (i := 3) sc_law_apart.nd rfl (Or.inr rfl))
          (pss_one (ps_if (pt_cmpR op_notIn_seq (pe_callB call_len_seq (by rfl) T.n_len PySem.boot_len (pa_cons (pe_comp (M := ["_law_name", "_law_way"]) (ρ := [none, some 3]) (defScope s_law_apart) ["_law_come_here", "_law_packs_here", "_law_names_here", "_law_way"] ⟨rfl, by decide +kernel, by decide +kernel, by decide +kernel, rfl, by decide +kernel, by decide +kernel⟩ (pi_list (pv 2)) (fun _ _ _ _ _ _ => (pg_name (i := 0) (show (["_law_name", "_law_way"] : List Str).Nodup by decide +kernel) rfl (Or.inl rfl))) (fun _ _ _ _ _ _ => (pts_one (pt_cmpR (op_in_seqK (K := K) rfl) (pv 0) (pv 1) (by with_unfolding_all rfl)))) (fun _ _ _ _ _ _ => (pv 0))) pa_nil)) (pe_tup (pa_cons pe_int (pa_cons (pe_callB call_len_seq (by rfl) T.n_len PySem.boot_len (pa_cons (pv 2) pa_nil)) pa_nil))) (by with_unfolding_all rfl))
            (pss_one (ps_ret pe_bl)) pss_nil)))))
      (pss_one (ps_ret pe_bl))), ?_⟩
    refine ⟨_, rfl, pl, rfl, ⟨_, SqL.of hpl⟩, for_list (K := K) (a := pl) (xs := ps) (fun i σ H2 => ∃ v2 v3 : Option V, σ = [some (.ref cl), some (.ref pl), v2, v3] ∧ Same H H2)
      ⟨none, none, rfl, Same.refl H⟩ (fun i σ H2 _ ⟨_, _, _, s2⟩ => SqL.of (s2 _ _ hpl)) ?_ ?_⟩
    · rintro i y σ H2 hy ⟨v2, v3, rfl, s2⟩
      obtain ⟨ns, hns, p, rfl, hp⟩ := Paired.get? hps hy
      have hnm := List.mem_of_getElem? hns
      have hn6 := h600 ns hnm
      refine ⟨_, rfl, cl, rfl, ⟨_, SqL.of (s2 _ _ hcl)⟩, for_list (K := K) (a := cl) (xs := cs) (fun j σ H3 => ∃ v3 : Option V, σ = [some (.ref cl), some (.ref pl), some (.ref p), v3] ∧ Same H H3)
        ⟨v3, rfl, s2⟩ (fun j σ H3 _ ⟨_, _, s3⟩ => SqL.of (s3 _ _ hcl)) ?_ ?_⟩
      · rintro j z σ H3 hz ⟨v3, rfl, s3⟩
        obtain ⟨way, hway, b, rfl, hb⟩ := Paired.get? hcs hz
        refine ⟨_, rfl, p, rfl, ⟨_, SqL.of (s3 _ _ hp)⟩, fun D gD => ?_⟩
        refine comp_lst (K := K) (a := p) (xs := ns.map V.str) (fun k σ H4 => ∃ v0 : Option V, σ = [v0, some (.ref b)] ∧ Same H3 H4 ∧ H4 D = some (.lst ((metN (ns.take k) way).map V.str))) ⟨_, rfl, (Same.refl H3).new gD, upd_same⟩ (fun k σ H4 ⟨_, _, s4, _⟩ => SqL.of (s4 _ _ (s3 _ _ hp))) ?_ ?_
        · rintro k x σ H4 hx ⟨v0, rfl, s4, hD⟩
          obtain ⟨n, hn, rfl⟩ := strs_get hx
          have hml := met_len (ns.take k) way
          rw [List.length_take] at hml
          refine ⟨_, rfl, _, rfl, b, _, rfl, .inl (SqL.of ((s3.trans s4) _ _ hb)), rfl, strs_flat _, _, rfl, ?_⟩
          rw [if_neg Bool.false_ne_true, inV_strs]
          by_cases hw : n ∈ way
          · rw [decide_eq_true hw]
            refine iteT ⟨_, rfl, _, hD, small1000 (by rw [List.length_map]; omega), _, rfl, s4.put gD, ?_⟩
            rw [upd_same, met_snoc hn, if_pos hw, List.map_append]
            rfl
          · rw [decide_eq_false hw]
            refine iteF ⟨_, rfl, s4, ?_⟩
            rw [met_snoc hn, if_neg hw, List.append_nil]
            exact hD
        · rintro σ H4 ⟨v0, rfl, s4, hD⟩
          rw [List.length_map, List.take_of_length_le (Nat.le_refl _)] at hD
          refine ⟨D, _, rfl, .inl (SqL.of hD), _, rfl, p, _, rfl, .inl (SqL.of ((s3.trans s4) _ _ hp)), (by show 2 ≤ sizeLine; decide), fun t gt => ⟨t, _, rfl, .inr (SqT.of upd_same), rfl, rfl, _, rfl, ?_⟩⟩
          rw [List.length_map, List.length_map, if_pos rfl]
          have hd := hall ns hnm way (List.mem_of_getElem? hway)
          have hin : inV (V.int ((metN ns way).length : Int)) [V.int 0, V.int (ns.length : Int)] = true := by
            rcases hd with z | z
            · rw [z]; rfl
            · rw [z]; simp [inV, eqV]
          rw [hin]
          exact iteF ⟨_, rfl, (s3.trans s4).new gt⟩
      · rintro σ H3 ⟨v3, rfl, s3⟩
        exact ⟨_, _, rfl, s3⟩
    · rintro σ H2 ⟨v2, v3, rfl, s2⟩
      exact q H2 s2
theorem nt_g {i : Nat} {x : V} {σ : L2.St} {H : Hp} {A B : L2.St → Hp → Prop} (h : A (σ.set i (some x)) H) : gName i x σ H fun σ4 H4 => tNoTest σ4 H4 fun b H5 => if b = true then A σ4 H5 else B σ4 H5 := h
noncomputable def cntM (p : List Str) (ways : List (List Str)) : Nat := (ways.filter fun y => !(metN p y).isEmpty).length
noncomputable def loadF (ps : List Pt) (t : Int) (p : List Str) : Int := t + (p.map fun n => szR (rowsOf ps n)).sum
noncomputable def paidF (ps : List Pt) (t : Int) (ways packs : List (List Str)) : Int := (packs.map fun p => (cntM p ways : Int) * loadF ps t p).sum
theorem paid_snoc (ps : List Pt) (t : Int) (ways packs : List (List Str)) (p : List Str) : paidF ps t ways (packs ++ [p]) = paidF ps t ways packs + (cntM p ways : Int) * loadF ps t p := by
  unfold paidF
  rw [List.map_append, List.sum_append]
  simp
theorem cntM_snoc {p : List Str} {ways : List (List Str)} {j : Nat} {y : List Str} (h : ways[j]? = some y) : cntM p (ways.take (j + 1)) = cntM p (ways.take j) + if (!(metN p y).isEmpty) = true then 1 else 0 := by
  unfold cntM
  rw [filt_snoc h, List.length_append]
  split <;> rfl
noncomputable def spPaid9 : Sp := fun vs H Q _ => ∃ (a cl pl : Addr) (ps : List Pt) (cs vps : List V) (ways packs : List (List Str)) (t : Int), vs = [.ref a, .ref cl, .ref pl, .int t] ∧ PartsF H a ps ∧ PsFit ps ∧ H cl = some (.lst cs) ∧ Paired (WAt H) cs ways ∧ H pl = some (.lst vps) ∧ Paired (WAt H) vps packs ∧
  (∀ p ∈ packs, p.length ≤ 600 ∧ ∀ n ∈ p, n ∈ ps.map (·.1)) ∧ ∀ H', Same H H' → Q (.int (paidF ps t ways packs)) H'
theorem ok_paid9 (T : Txt K mg) : L2.Cl P w K mg base 1 "_law_paid" ["_law_parts_here", "_law_come_here", "_law_packs_here", "_law_toll_here"] spPaid9 := by
  refine Cl.of T.d_law_paid sc_law_paid (fun vs H Q E h => ?_) (fun _ _ _ _ _ _ us hl => by obtain ⟨a, b, c, d, rfl⟩ := len4 hl; rfl) (fun f cdv A outer s H vs Q E hr h => ?_)
  · obtain ⟨a, cl, pl, ps, cs, vps, ways, packs, t, rfl, _⟩ := h
    rfl
  · obtain ⟨a, cl, pl, ps, cs, vps, ways, packs, t, rfl, hpf, hfit, hcl, hcs, hpl, hps, hpk, q⟩ := h
    have hu := hu_of hr
    have hu0 := Nat.lt_of_succ_lt hu
    have hpi := hfit.hi
    have hcsl : cs.length = ways.length := Paired.length hcs
    have hpsl : vps.length = packs.length := Paired.length hps
    refine ⟨_, (pss_cons (ps_set (i := 4) sc_law_paid.nd rfl (Or.inr rfl) pe_dnewK)
      (pss_cons (ps_for PassesOwn.never rfl (pi_tup (pv 0)) (pg_tup rfl (pgs_cons (pg_name (i := 5) sc_law_paid.nd rfl (Or.inl rfl)) (pgs_cons (pg_name (i := 6) sc_law_paid.nd rfl (Or.inl rfl)) pgs_nil)))
        (pss_one (ps_dput hu (pv 4) (pv 5) (pe_op op_add pe_int (pe_callB call_len_seq (by rfl) T.n_len PySem.boot_len (pa_cons (pe_comp (M := ["_law_row_here"]) (ρ := [none]) (defScope s_law_paid) ["_law_parts_here", "_law_come_here", "_law_packs_here", "_law_toll_here", "_law_sizes", "_law_name", "_law_rows", "_law_spent", "_law_names_here", "_law_load", "_law_way"] ⟨rfl, by decide +kernel, by decide +kernel, by decide +kernel, rfl, by decide +kernel, by decide +kernel⟩ (pi_tup (pv 6)) (fun _ _ _ _ _ _ => (pg_name (i := 0) (show (["_law_row_here"] : List Str).Nodup by decide +kernel) rfl (Or.inl rfl))) (fun _ _ _ _ _ _ => (pts_one (pt_cmpR op_ne (pe_ix (ix_tupK (K := K) rfl) (pv 0) pe_int (fun _ _ => rfl)) pe_str (nomark _)))) (fun _ _ _ _ _ _ => (pv 0))) pa_nil))) rfl)))
      (pss_cons (ps_set (i := 7) sc_law_paid.nd rfl (Or.inl rfl) pe_int)
      (pss_cons (ps_for PassesOwn.never rfl (pi_list (pv 2)) (pg_name (i := 8) sc_law_paid.nd rfl (Or.inl rfl))
        (pss_cons (ps_set (i := 9) sc_law_paid.nd rfl (Or.inl rfl) (pe_op op_add (pv 3) (pe_callB (call_sum rfl) (by rfl) T.n_sum boot_sum (pa_cons (pe_comp (M := ["_law_name", "_law_sizes"]) (ρ := [none, some 4]) (defScope s_law_paid) ["_law_parts_here", "_law_come_here", "_law_packs_here", "_law_toll_here", "_law_sizes", "_law_name", "_law_rows", "_law_spent", "_law_names_here", "_law_load", "_law_way"] ⟨rfl, by decide +kernel, by decide +kernel, by decide +kernel, rfl, by decide +kernel, by decide +kernel⟩ (pi_list (pv 8)) (fun _ _ _ _ _ _ => (pg_name (i := 0) (show (["_law_name", "_law_sizes"] : List Str).Nodup by decide +kernel) rfl (Or.inl rfl))) (fun _ _ _ _ _ _ => pts_nil) (fun _ _ _ _ _ _ => (pe_dget hu (pv 1) (pv 0) (fun _ _ => rfl)))) pa_nil))))
        (pss_one (ps_for PassesOwn.never rfl (pi_list (pv 1)) (pg_name (i := 10) sc_law_paid.nd rfl (Or.inr rfl))
          (pss_one (ps_if (pt_cmpR (op_neL_nil hu0) (pe_comp (M := ["_law_name", "_law_way"]) (ρ := [none, some 10]) (defScope s_law_paid) ["_law_parts_here", "_law_come_here", "_law_packs_here", "_law_toll_here", "_law_sizes", "_law_name", "_law_rows", "_law_spent", "_law_names_here", "_law_load", "_law_way"] ⟨rfl, by decide +kernel, by decide +kernel, by decide +kernel, rfl, by decide +kernel, by decide +kernel⟩ (pi_list (pv 8)) (fun _ _ _ _ _ _ => (pg_name (i := 0) (show (["_law_name", "_law_way"] : List Str).Nodup by decide +kernel) rfl (Or.inl rfl))) (fun _ _ _ _ _ _ => (pts_one (pt_cmpR (op_in_seqK (K := K) rfl) (pv 0) (pv 1) (by with_unfolding_all rfl)))) (fun _ _ _ _ _ _ => (pv 0))) (pe_lst pa_nil) (nomark _))
            (pss_one (ps_set (i := 7) sc_law_paid.nd rfl (Or.inl rfl) (pe_op op_add (pv 7) (pv 9)))) pss_nil))))))
      (pss_one (ps_ret (pv 7))))))), ?_⟩
    intro d gd
    have s1 : Same H (upd H d (.dK [])) := (Same.refl H).new gd
    obtain ⟨oo, ws, ha, ho, hpts⟩ := id hpf
    have sqa : ∀ {H' : Hp}, Same H H' → SqT K H' a ws := fun s2 => .inl (.inr ⟨oo, s2 _ _ ha⟩)
    have hwl : ws.length = ps.length := Paired.length hpts
    refine ⟨_, rfl, a, rfl, ⟨_, sqa s1⟩, for_tup (K := K) (a := a) (xs := ws) (fun i σ H2 => ∃ (kvs : List (Key × V)) (v5 v6 : Option V), σ = [some (.ref a), some (.ref cl), some (.ref pl), some (.int t), some (.ref d), v5, v6, none, none, none, none] ∧ Same H H2 ∧ H2 d = some (.dK kvs) ∧ kvs.length ≤ i ∧ ∀ pt ∈ ps.take i, valV kvs (Sum.inr pt.1) = some (.int (szR pt.2)))
      ⟨[], none, none, rfl, s1, upd_same, by simp, by simp⟩ (fun i σ H2 _ ⟨_, _, _, _, s2, _⟩ => sqa s2) ?_ ?_⟩
    · rintro i y σ H2 hy ⟨kvs, v5, v6, rfl, s2, hd, hkl, hval⟩
      obtain ⟨pt, hpt, tt, u, zs, ey, ht, hu', hrs⟩ := Paired.get? hpts hy
      subst ey
      have hi := (List.getElem?_eq_some_iff.mp hpt).1
      have hpm := List.mem_of_getElem? hpt
      have h40 := hfit.rows pt hpm
      have hzl : zs.length = pt.2.length := Paired.length hrs
      refine ⟨tt, _, rfl, SqT.of (s2 _ _ ht), rfl, _, _, rfl, _, _, rfl, rfl, ?_⟩
      refine ⟨_, rfl, u, rfl, ⟨_, SqT.of (s2 _ _ hu')⟩, fun D gD => ?_⟩
      refine comp_tup (K := K) (a := u) (xs := zs) (fun j σ H3 => ∃ (v0 : Option V) (ys : List V), σ = [v0] ∧ Same H2 H3 ∧ H3 D = some (.lst ys) ∧ ys.length = ((pt.2.take j).filter ngB).length) ⟨_, [], rfl, (Same.refl H2).new gD, upd_same, rfl⟩ (fun j σ H3 ⟨_, _, _, s3, _⟩ => SqT.of (s3 _ _ (s2 _ _ hu'))) ?_ ?_
      · rintro j x σ H3 hx ⟨v0, ys, rfl, s3, hD, hyl⟩
        obtain ⟨rw, hrw, r, er, hra⟩ := Paired.get? hrs hx
        subst er
        obtain ⟨rest, hk⟩ := row_kd (hra.mono (s2.trans s3).tups)
        have hfl := List.length_filter_le ngB (pt.2.take j)
        rw [List.length_take] at hfl
        refine ⟨_, rfl, r, _, _, _, rfl, rfl, SqT.of hk, atI_nat (j := 0) rfl, rfl, _, rfl, ?_⟩
        have eb : (!decide (V.str (kindS rw) = V.str "give")) = ngB rw := by
          unfold ngB
          by_cases z : kindS rw = "give"
          · rw [decide_eq_true z, z]; rfl
          · rw [decide_eq_false z, decide_eq_false (fun y => z (V.str.inj y))]
        rw [eb]
        cases hb : ngB rw with
        | true =>
          refine iteT ⟨_, rfl, _, hD, small1000 (by omega), _, ys ++ [.ref r], rfl, s3.put gD, upd_same, ?_⟩
          rw [filt_snoc hrw, if_pos hb, List.length_append, List.length_append, hyl]
          rfl
        | false =>
          refine iteF ⟨_, ys, rfl, s3, hD, ?_⟩
          rw [filt_snoc hrw, if_neg (by rw [hb]; decide), List.append_nil]
          exact hyl
      · rintro σ H3 ⟨v0, ys, rfl, s3, hD, hyl⟩
        rw [hzl, List.take_of_length_le (Nat.le_refl _)] at hyl
        refine ⟨D, _, rfl, .inl (SqL.of hD), _, _, rfl, rfl, ?_⟩
        have hd3 := s3 _ _ hd
        refine ⟨_, rfl, _, rfl, d, _, rfl, DPut.k (k := Sum.inr pt.1) hd3 (small1000 (by omega)), ?_⟩
        refine ⟨putK kvs (Sum.inr pt.1) (.int (1 + (ys.length : Int))), _, _, rfl, (s2.trans s3).put gd, upd_same, by have := length_putK kvs (Sum.inr pt.1) (.int (1 + (ys.length : Int))); omega, fun qt hqt => ?_⟩
        rw [valV_put]
        by_cases e : qt.1 = pt.1
        · rw [if_pos (by rw [e]), hyl]
          have hqm : qt ∈ ps := List.mem_of_mem_take hqt
          have e2 : qt.2 = pt.2 := by rw [← rowsOf_eq hfit.nd hqm, ← rowsOf_eq hfit.nd hpm, e]
          rw [e2]
          rfl
        · rw [if_neg (fun z => e (Sum.inr.inj z))]
          rw [take_succ_get hpt] at hqt
          rcases List.mem_append.mp hqt with z | z
          · exact hval qt z
          · exact absurd (congrArg (·.1) (List.mem_singleton.mp z)) e
    · rintro σ H2 ⟨kvs, v5, v6, rfl, s2, hd, hkl, hval⟩
      rw [hwl, List.take_length] at hval
      have hsz : ∀ n ∈ ps.map (·.1), valV kvs (Sum.inr n) = some (.int (szR (rowsOf ps n))) := fun n hn => by
        obtain ⟨pt, h1, h2⟩ := List.mem_map.mp hn
        rw [← h2, rowsOf_eq hfit.nd h1]
        exact hval pt h1
      refine ⟨_, rfl, pl, rfl, ⟨_, SqL.of (s2 _ _ hpl)⟩, for_list (K := K) (a := pl) (xs := vps) (fun i σ H3 => ∃ v8 v9 v10 : Option V, σ = [some (.ref a), some (.ref cl), some (.ref pl), some (.int t), some (.ref d), v5, v6, some (.int (paidF ps t ways (packs.take i))), v8, v9, v10] ∧ Same H2 H3)
        ⟨none, none, none, rfl, Same.refl H2⟩ (fun i σ H3 _ ⟨_, _, _, _, s3⟩ => SqL.of (s3 _ _ (s2 _ _ hpl))) ?_ ?_⟩
      · rintro i y σ H3 hy ⟨v8, v9, v10, rfl, s3⟩
        obtain ⟨ns, hns, p, rfl, hp⟩ := Paired.get? hps hy
        have hnm := List.mem_of_getElem? hns
        obtain ⟨hn6, hnin⟩ := hpk ns hnm
        have s23 := s2.trans s3
        refine ⟨_, rfl, _, rfl, p, rfl, ⟨_, SqL.of (s23 _ _ hp)⟩, fun D gD => ?_⟩
        refine comp_lst (K := K) (a := p) (xs := ns.map V.str) (fun k σ H4 => ∃ v0 : Option V, σ = [v0, some (.ref d)] ∧ Same H3 H4 ∧ H4 D = some (.lst (((ns.take k).map fun n => szR (rowsOf ps n)).map V.int))) ⟨_, rfl, (Same.refl H3).new gD, upd_same⟩ (fun k σ H4 ⟨_, _, s4, _⟩ => SqL.of (s4 _ _ (s23 _ _ hp))) ?_ ?_
        · rintro k x σ H4 hx ⟨v0, rfl, s4, hD⟩
          obtain ⟨n, hn, rfl⟩ := strs_get hx
          have hg := DGet.k (k := Sum.inr n) (s4 _ _ (s3 _ _ hd))
          rw [hsz n (hnin n (List.mem_of_getElem? hn))] at hg
          have hkl2 : k < ns.length := (List.getElem?_eq_some_iff.mp hn).1
          refine nt_g ?_
          refine ⟨_, rfl, _, rfl, d, _, rfl, hg, _, hD, small1000 (by rw [List.length_map, List.length_map, List.length_take]; omega), _, rfl, s4.put gD, ?_⟩
          rw [upd_same, take_succ_get hn, List.map_append, List.map_append]
          rfl
        · rintro σ H4 ⟨v0, rfl, s4, hD⟩
          rw [List.length_map, List.take_of_length_le (Nat.le_refl _)] at hD
          refine ⟨D, _, rfl, SqL.of hD, _, _, rfl, rfl, ?_⟩
          show gName 9 (.int (loadF ps t ns)) _ _ _
          have s24 := s23.trans s4
          refine ⟨_, rfl, cl, rfl, ⟨_, SqL.of (s24 _ _ hcl)⟩, for_list (K := K) (a := cl) (xs := cs) (fun j σ H5 => ∃ v10 : Option V, σ = [some (.ref a), some (.ref cl), some (.ref pl), some (.int t), some (.ref d), v5, v6, some (.int (paidF ps t ways (packs.take i) + (cntM ns (ways.take j) : Int) * loadF ps t ns)), some (.ref p), some (.int (loadF ps t ns)), v10] ∧ Same H4 H5)
            ⟨v10, ?_, Same.refl H4⟩ (fun j σ H5 _ ⟨_, _, s5⟩ => SqL.of (s5 _ _ (s24 _ _ hcl))) ?_ ?_⟩
          · have e0 : (cntM ns (ways.take 0) : Int) * loadF ps t ns = 0 := by
              show ((0 : Nat) : Int) * _ = 0
              simp
            rw [e0, Int.add_zero]
            rfl
          · rintro j z σ H5 hz ⟨v10, rfl, s5⟩
            obtain ⟨way, hway, b, rfl, hb⟩ := Paired.get? hcs hz
            have s25 := s24.trans s5
            refine ⟨_, rfl, p, rfl, ⟨_, SqL.of (s25 _ _ hp)⟩, fun D2 gD2 => ?_⟩
            refine comp_lst (K := K) (a := p) (xs := ns.map V.str) (fun k σ H6 => ∃ v0 : Option V, σ = [v0, some (.ref b)] ∧ Same H5 H6 ∧ H6 D2 = some (.lst ((metN (ns.take k) way).map V.str))) ⟨_, rfl, (Same.refl H5).new gD2, upd_same⟩ (fun k σ H6 ⟨_, _, s6, _⟩ => SqL.of (s6 _ _ (s25 _ _ hp))) ?_ ?_
            · rintro k x σ H6 hx ⟨v0, rfl, s6, hD6⟩
              obtain ⟨n, hn, rfl⟩ := strs_get hx
              have hml := met_len (ns.take k) way
              rw [List.length_take] at hml
              refine ⟨_, rfl, _, rfl, b, _, rfl, .inl (SqL.of ((s25.trans s6) _ _ hb)), rfl, strs_flat _, _, rfl, ?_⟩
              rw [if_neg Bool.false_ne_true, inV_strs]
              by_cases hw : n ∈ way
              · rw [decide_eq_true hw]
                refine iteT ⟨_, rfl, _, hD6, small1000 (by rw [List.length_map]; omega), _, rfl, s6.put gD2, ?_⟩
                rw [upd_same, met_snoc hn, if_pos hw, List.map_append]
                rfl
              · rw [decide_eq_false hw]
                refine iteF ⟨_, rfl, s6, ?_⟩
                rw [met_snoc hn, if_neg hw, List.append_nil]
                exact hD6
            · rintro σ H6 ⟨v0, rfl, s6, hD6⟩
              rw [List.length_map, List.take_of_length_le (Nat.le_refl _)] at hD6
              refine ⟨(by show 0 ≤ sizeLine; decide), fun e ge => ⟨D2, e, _, rfl, rfl, SqL.of (upd_keep hD6 ge), SqL.of upd_same, _, rfl, ?_⟩⟩
              have em : (!((metN ns way).map V.str).isEmpty) = !(metN ns way).isEmpty := by cases metN ns way <;> rfl
              rw [em]
              have hcs2 := cntM_snoc (p := ns) hway
              cases hme : (!(metN ns way).isEmpty) with
              | true =>
                rw [hme, if_pos rfl] at hcs2
                refine iteT ⟨_, rfl, _, rfl, _, _, rfl, rfl, some (.ref b), ?_, (s5.trans s6).new ge⟩
                rw [hcs2]
                have e3 : paidF ps t ways (packs.take i) + ((cntM ns (ways.take j) + 1 : Nat) : Int) * loadF ps t ns = paidF ps t ways (packs.take i) + (cntM ns (ways.take j) : Int) * loadF ps t ns + loadF ps t ns := by
                  rw [Int.natCast_add, Int.add_mul]
                  simp only [Int.natCast_one, Int.one_mul]
                  omega
                rw [e3]
                rfl
              | false =>
                rw [hme, if_neg (by decide)] at hcs2
                refine iteF ⟨some (.ref b), ?_, (s5.trans s6).new ge⟩
                rw [hcs2]
                rfl
          · rintro σ H5 ⟨v10, rfl, s5⟩
            rw [hcsl, List.take_length]
            refine ⟨some (.ref p), some (.int (loadF ps t ns)), v10, ?_, s3.trans (s4.trans s5)⟩
            rw [take_succ_get hns, paid_snoc]
      · rintro σ H3 ⟨v8, v9, v10, rfl, s3⟩
        rw [hpsl, List.take_length]
        exact ⟨_, rfl, q H3 (s2.trans s3)⟩
theorem bit_at : ∀ (l : List Bool) (j : Nat), (bitsI l).toNat.testBit j = l.getD j false
  | [], j => by
    show (0 : Nat).testBit j = false
    exact Nat.zero_testBit j
  | b :: r, 0 => by
    have h := bitsI_mod b r
    have h0 := bitsI_pos (b :: r)
    rw [Nat.testBit_zero]
    show decide _ = b
    cases b with
    | true => rw [if_pos rfl] at h; exact decide_eq_true (by omega)
    | false => rw [if_neg (by decide)] at h; exact decide_eq_false (by omega)
  | b :: r, j + 1 => by
    have h := bitsI_div b r
    have h0 := bitsI_pos (b :: r)
    have h1 := bitsI_pos r
    rw [Nat.testBit_succ, show (bitsI (b :: r)).toNat / 2 = (bitsI r).toNat by omega, bit_at r j]
    rfl
theorem bitsI_ltN : ∀ l : List Bool, (bitsI l).toNat < 2 ^ l.length
  | [] => by decide
  | b :: r => by
    have h := bitsI_div b r
    have h0 := bitsI_pos (b :: r)
    have h1 := bitsI_pos r
    have ih := bitsI_ltN r
    rw [List.length_cons, Nat.pow_succ]
    omega
theorem cnt_range {α : Type} (q : α → Bool) : ∀ (l : List α) (n : Nat) (tb : Nat → Bool), l.length ≤ n → (∀ j, tb j = ((l[j]?).map q).getD false) → ((List.range n).filter tb).length = (l.filter q).length
  | [], n, tb, _, h => by
    rw [List.filter_eq_nil_iff.mpr fun j _ => by rw [h j]; simp]
    rfl
  | a :: r, 0, tb, hn, h => by simp at hn
  | a :: r, n + 1, tb, hn, h => by
    have ih := cnt_range q r n (fun j => tb (j + 1)) (by simpa using hn) fun j => h (j + 1)
    have e0 : tb 0 = q a := h 0
    rw [List.range_succ_eq_map, List.filter_cons, e0, List.filter_map, List.filter_cons]
    have e1 : ((List.range n).filter (tb ∘ Nat.succ)).length = (r.filter q).length := ih
    cases q a with
    | true => rw [if_pos rfl, if_pos rfl, List.length_cons, List.length_cons, List.length_map, e1]
    | false => rw [if_neg (by decide), if_neg (by decide), List.length_map, e1]
theorem fold_bit (gs : List Gp) (j : Nat) : ∀ (ks : List Nat) (acc : Nat), (ks.foldl (fun c k => c ||| (gpAt gs k).1) acc).testBit j = (acc.testBit j || ks.any fun k => (gpAt gs k).1.testBit j)
  | [], acc => by simp
  | k :: r, acc => by
    rw [List.foldl_cons, fold_bit gs j r, Nat.testBit_or, List.any_cons, Bool.or_assoc]
structure Tn (nms : List Str) (ways : List (List Str)) (f : Str → Int) (ts : List Int) : Prop where
  f_eq : ∀ n, f n = bitsI (ways.map (inL n))
  hw : ways.length ≤ 24
  mem : ∀ t, t ∈ ts ↔ 0 < t ∧ ∃ n ∈ nms, f n = t
  nd : ts.Nodup
  few : ts.length ≤ 24
theorem Tn.bit {nms : List Str} {ways : List (List Str)} {f : Str → Int} {ts : List Int} (h : Tn nms ways f ts) (n : Str) {j : Nat} {y : List Str} (hy : ways[j]? = some y) : (f n).toNat.testBit j = inL n y := by
  rw [h.f_eq, bit_at, List.getD_eq_getElem?_getD, List.getElem?_map, hy]
  rfl
theorem Tn.bit0 {nms : List Str} {ways : List (List Str)} {f : Str → Int} {ts : List Int} (h : Tn nms ways f ts) (n : Str) {j : Nat} (hy : ways[j]? = none) : (f n).toNat.testBit j = false := by
  rw [h.f_eq, bit_at, List.getD_eq_getElem?_getD, List.getElem?_map, hy]
  rfl
theorem gn_mem {f : Str → Int} {l : List Str} {t : Int} {n : Str} : n ∈ gn f l t ↔ n ∈ l ∧ f n = t := by
  unfold gn
  rw [List.mem_filter, decide_eq_true_iff]
theorem ts_get {ts : List Int} {k : Nat} (hk : k < ts.length) : ts[k]? = some (ts.getD k 0) := by
  rw [List.getD_eq_getElem?_getD, List.getElem?_eq_getElem hk]
  rfl
theorem nss_get {f : Str → Int} {nms : List Str} {ts : List Int} {k : Nat} (hk : k < ts.length) : (ts.map (gn f nms)).getD k [] = gn f nms (ts.getD k 0) := by
  rw [List.getD_eq_getElem?_getD, List.getElem?_map, ts_get hk]
  rfl
theorem pack_mem {f : Str → Int} {nms : List Str} {ts : List Int} {ks : List Nat} (hks : ∀ k ∈ ks, k < ts.length) {n : Str} : n ∈ packN (ts.map (gn f nms)) ks ↔ n ∈ nms ∧ ∃ k ∈ ks, f n = ts.getD k 0 := by
  unfold packN
  rw [List.mem_flatMap]
  constructor
  · rintro ⟨k, hk, hn⟩
    rw [nss_get (hks k hk), gn_mem] at hn
    exact ⟨hn.1, k, hk, hn.2⟩
  · rintro ⟨h1, k, hk, h2⟩
    refine ⟨k, hk, ?_⟩
    rw [nss_get (hks k hk), gn_mem]
    exact ⟨h1, h2⟩
noncomputable def gsOf (f : Str → Int) (nms : List Str) (S : Int → Int) (ts : List Int) : List Gp := ts.map fun t => (t.toNat, S t)
theorem gs_get {f : Str → Int} {nms : List Str} {S : Int → Int} {ts : List Int} {k : Nat} (hk : k < ts.length) : gpAt (gsOf f nms S ts) k = ((ts.getD k 0).toNat, S (ts.getD k 0)) := by
  unfold gpAt gsOf
  rw [List.getD_eq_getElem?_getD, List.getElem?_map, ts_get hk]
  rfl
theorem met_empty {p y : List Str} : (!(metN p y).isEmpty) = true ↔ ∃ n ∈ p, n ∈ y := by
  unfold metN
  constructor
  · intro h
    cases e : p.filter (fun n => decide (n ∈ y)) with
    | nil => rw [e] at h; cases h
    | cons a r =>
      have hm : a ∈ p.filter (fun n => decide (n ∈ y)) := by rw [e]; exact List.mem_cons_self
      rw [List.mem_filter, decide_eq_true_iff] at hm
      exact ⟨a, hm⟩
  · rintro ⟨n, h1, h2⟩
    have hm : n ∈ p.filter (fun n => decide (n ∈ y)) := List.mem_filter.mpr ⟨h1, decide_eq_true h2⟩
    cases e : p.filter (fun n => decide (n ∈ y)) with
    | nil => rw [e] at hm; cases hm
    | cons a r => rfl
theorem Tn.ones {nms : List Str} {ways : List (List Str)} {f : Str → Int} {ts : List Int} (h : Tn nms ways f ts) {S : Int → Int} (hok : GsOk (gsOf f nms S ts)) {ks : List Nat} (hks : ∀ k ∈ ks, k < ts.length) : onesN (oned (gsOf f nms S ts) ks) = cntM (packN (ts.map (gn f nms)) ks) ways := by
  rw [← count_bits 24 _ (oned_lt hok ks)]
  unfold cntM
  refine cnt_range _ ways 24 _ h.hw fun j => ?_
  unfold oned
  rw [fold_bit, Nat.zero_testBit, Bool.false_or]
  cases hy : ways[j]? with
  | none =>
    show _ = false
    rw [List.any_eq_false]
    intro k hk
    rw [gs_get (hks k hk)]
    obtain ⟨_, n, _, hn⟩ := (h.mem _).mp (List.mem_of_getElem? (ts_get (hks k hk)))
    show ¬ ((ts.getD k 0).toNat.testBit j) = true
    rw [← hn, h.bit0 n hy]
    decide
  | some y =>
    show _ = !(metN _ y).isEmpty
    rw [Bool.eq_iff_iff, List.any_eq_true, met_empty]
    constructor
    · rintro ⟨k, hk, hb⟩
      rw [gs_get (hks k hk)] at hb
      obtain ⟨_, n, hn1, hn⟩ := (h.mem _).mp (List.mem_of_getElem? (ts_get (hks k hk)))
      have hb : ((ts.getD k 0).toNat.testBit j) = true := hb
      rw [← hn, h.bit n hy] at hb
      exact ⟨n, (pack_mem hks).mpr ⟨hn1, k, hk, hn⟩, of_decide_eq_true hb⟩
    · rintro ⟨n, hn, hny⟩
      obtain ⟨_, k, hk, e⟩ := (pack_mem hks).mp hn
      refine ⟨k, hk, ?_⟩
      rw [gs_get (hks k hk)]
      show ((ts.getD k 0).toNat.testBit j) = true
      rw [← e, h.bit n hy]
      exact decide_eq_true hny
theorem load_eq {ps : List Pt} {f : Str → Int} {ts : List Int} (hnd : (ps.map (·.1)).Nodup) (t : Int) : ∀ ks : List Nat, (∀ k ∈ ks, k < ts.length) → load (gsOf f (ps.map (·.1)) (fun t => szN ps (gn f (ps.map (·.1)) t)) ts) t ks = loadF ps t (packN (ts.map (gn f (ps.map (·.1)))) ks) := by
  intro ks
  generalize hz : ks.reverse = zs
  induction zs generalizing ks with
  | nil =>
    intro _
    have : ks = [] := by rw [← List.reverse_reverse ks, hz]; rfl
    rw [this]
    show t = t + 0
    omega
  | cons k r ih =>
    intro hks
    have e : ks = r.reverse ++ [k] := by rw [← List.reverse_reverse ks, hz, List.reverse_cons]
    rw [e] at hks ⊢
    have hk : k < ts.length := hks k (by simp)
    rw [load_snoc, ih r.reverse (List.reverse_reverse r) (fun x hx => hks x (List.mem_append_left _ hx)), packN_snoc, gs_get hk, nss_get hk]
    show _ + szN ps (gn f (ps.map (·.1)) (ts.getD k 0)) = _
    unfold loadF
    rw [sz_names hnd, List.map_append, List.sum_append]
    omega
theorem Tn.paid {ps : List Pt} {ways : List (List Str)} {f : Str → Int} {ts : List Int} (h : Tn (ps.map (·.1)) ways f ts) (hnd : (ps.map (·.1)).Nodup) (hok : GsOk (gsOf f (ps.map (·.1)) (fun t => szN ps (gn f (ps.map (·.1)) t)) ts)) (t : Int) {kss : List (List Nat)} (hks : ∀ ks ∈ kss, ∀ k ∈ ks, k < ts.length) :
    totP (gsOf f (ps.map (·.1)) (fun t => szN ps (gn f (ps.map (·.1)) t)) ts) t kss = paidF ps t ways (kss.map (packN (ts.map (gn f (ps.map (·.1)))))) := by
  unfold totP paidF
  rw [List.map_map]
  congr 1
  refine List.map_congr_left fun ks hk => ?_
  show packP _ t ks = _
  unfold packP
  rw [h.ones hok (hks ks hk), load_eq hnd t ks (hks ks hk)]
  rfl
theorem once_of {k : Nat} : ∀ kss : List (List Nat), (kss.flatten.count k = 0 → (kss.filter fun ks => decide (k ∈ ks)).length = 0) ∧ (kss.flatten.count k = 1 → (kss.filter fun ks => decide (k ∈ ks)).length = 1)
  | [] => ⟨fun _ => rfl, fun h => by simp at h⟩
  | a :: r => by
    obtain ⟨i0, i1⟩ := once_of r
    rw [List.flatten_cons, List.count_append, List.filter_cons]
    by_cases h : k ∈ a
    · have h1 : 1 ≤ a.count k := List.count_pos_iff.mpr h
      rw [if_pos (decide_eq_true h), List.length_cons]
      exact ⟨fun z => by omega, fun z => by rw [i0 (by omega)]⟩
    · have h1 : a.count k = 0 := List.count_eq_zero.mpr h
      rw [if_neg (by rw [decide_eq_false h]; decide), h1, Nat.zero_add]
      exact ⟨i0, i1⟩
theorem cnt_rng {k : Nat} : ∀ {n : Nat}, k < n → (List.range n).count k = 1
  | 0, h => absurd h (Nat.not_lt_zero _)
  | n + 1, h => by
    rw [List.range_succ, List.count_append]
    by_cases e : k = n
    · subst e
      rw [List.count_eq_zero.mpr (fun z => absurd (List.mem_range.mp z) (Nat.lt_irrefl _))]
      simp
    · rw [cnt_rng (show k < n by omega), List.count_eq_zero.mpr (fun z => e (List.mem_singleton.mp z))]
theorem Tn.zero {nms : List Str} {ways : List (List Str)} {f : Str → Int} {ts : List Int} (h : Tn nms ways f ts) (n : Str) : cntL n ways = 0 ↔ ¬ 0 < f n := by
  unfold cntL
  have hp : 0 ≤ f n := by rw [h.f_eq]; exact bitsI_pos _
  constructor
  · intro hz hpos
    have hne : (f n).toNat ≠ 0 := by omega
    obtain ⟨j, hj⟩ := Nat.exists_testBit_of_ne_zero hne
    cases hy : ways[j]? with
    | none => rw [h.bit0 n hy] at hj; cases hj
    | some y =>
      rw [h.bit n hy] at hj
      have hm : y ∈ ways.filter (inL n) := List.mem_filter.mpr ⟨List.mem_of_getElem? hy, hj⟩
      rw [List.length_eq_zero_iff.mp hz] at hm
      cases hm
  · intro hz
    rw [List.length_eq_zero_iff, List.filter_eq_nil_iff]
    intro y hy hb
    obtain ⟨j, hj⟩ := List.getElem?_of_mem hy
    have h1 := h.bit n hj
    rw [hb, show (f n).toNat = 0 by omega, Nat.zero_testBit] at h1
    cases h1
theorem Tn.once {nms : List Str} {ways : List (List Str)} {f : Str → Int} {ts : List Int} (h : Tn nms ways f ts) {kss : List (List Nat)} (hc : Cut9 kss ts.length) : ∀ n ∈ nms, cntL n (kss.map (packN (ts.map (gn f nms)))) = if cntL n ways = 0 then 0 else 1 := fun n hn => by
  have hlt := hc.lt
  have e : cntL n (kss.map (packN (ts.map (gn f nms)))) = (kss.filter fun ks => decide (∃ k ∈ ks, f n = ts.getD k 0)).length := by
    unfold cntL
    rw [List.filter_map, List.length_map]
    congr 1
    refine List.filter_congr fun ks hk => ?_
    show decide (n ∈ packN (ts.map (gn f nms)) ks) = _
    rw [decide_eq_decide, pack_mem (hlt ks hk)]
    exact ⟨fun z => z.2, fun z => ⟨hn, z⟩⟩
  rw [e]
  by_cases hp : 0 < f n
  · rw [if_neg (fun z => (h.zero n).mp z hp)]
    have hin : f n ∈ ts := (h.mem _).mpr ⟨hp, n, hn, rfl⟩
    obtain ⟨k0, hk0⟩ := List.getElem?_of_mem hin
    have hk0l : k0 < ts.length := (List.getElem?_eq_some_iff.mp hk0).1
    have hg : ts.getD k0 0 = f n := by rw [List.getD_eq_getElem?_getD, hk0]; rfl
    have hcnt : kss.flatten.count k0 = 1 := by
      rw [hc.prm.count_eq]
      exact cnt_rng hk0l
    have e2 : (kss.filter fun ks => decide (∃ k ∈ ks, f n = ts.getD k 0)) = kss.filter fun ks => decide (k0 ∈ ks) := by
      refine List.filter_congr fun ks hk => ?_
      rw [decide_eq_decide]
      constructor
      · rintro ⟨k, hkk, ek⟩
        have hkl := hlt ks hk k hkk
        have : k = k0 := by
          have a1 := ts_get hkl
          rw [← ek] at a1
          exact (List.getElem?_inj hkl h.nd).mp (a1.trans hk0.symm)
        exact this ▸ hkk
      · intro hkk
        exact ⟨k0, hkk, hg.symm⟩
    rw [e2]
    exact (once_of kss).2 hcnt
  · rw [if_pos ((h.zero n).mpr hp), List.length_eq_zero_iff, List.filter_eq_nil_iff]
    intro ks hk hb
    obtain ⟨k, hkk, ek⟩ := of_decide_eq_true hb
    have := ((h.mem _).mp (List.mem_of_getElem? (ts_get (hlt ks hk k hkk)))).1
    omega
theorem met_all {p y : List Str} (h : ∀ n ∈ p, n ∈ y) : metN p y = p := by
  unfold metN
  exact List.filter_eq_self.mpr fun n hn => decide_eq_true (h n hn)
theorem met_none {p y : List Str} (h : ∀ n ∈ p, n ∉ y) : metN p y = [] := by
  unfold metN
  rw [List.filter_eq_nil_iff]
  intro n hn hb
  exact h n hn (of_decide_eq_true hb)
theorem Tn.apart {nms : List Str} {ways : List (List Str)} {f : Str → Int} {ts : List Int} (h : Tn nms ways f ts) : ∀ p ∈ (tightC ts.length).map (packN (ts.map (gn f nms))), ∀ y ∈ ways, (metN p y).length = 0 ∨ (metN p y).length = p.length := fun p hp y hy => by
  obtain ⟨ks, hks, rfl⟩ := List.mem_map.mp hp
  obtain ⟨k, hk, rfl⟩ := List.mem_map.mp hks
  have hkl : k < ts.length := List.mem_range.mp hk
  obtain ⟨j, hj⟩ := List.getElem?_of_mem hy
  have hsame : ∀ n ∈ packN (ts.map (gn f nms)) [k], inL n y = (ts.getD k 0).toNat.testBit j := fun n hn => by
    obtain ⟨_, k', hk', e⟩ := (pack_mem (fun x hx => by rw [List.mem_singleton.mp hx]; exact hkl)).mp hn
    rw [List.mem_singleton.mp hk'] at e
    rw [← h.bit n hj, e]
  cases hb : (ts.getD k 0).toNat.testBit j with
  | true =>
    right
    rw [met_all fun n hn => of_decide_eq_true ((hsame n hn).trans hb)]
  | false =>
    left
    rw [met_none fun n hn => of_decide_eq_false ((hsame n hn).trans hb)]
    rfl
theorem ddS_nd {f : Str → Int} {acc : List Int} (h : acc.Nodup) (n : Str) : (ddS f acc n).Nodup := by
  unfold ddS
  split
  · rename_i z
    rw [List.nodup_append]
    exact ⟨h, by simp, fun a ha b hb e => z.2 (by rw [List.mem_singleton.mp hb] at e; rw [← e]; exact ha)⟩
  · exact h
theorem dd_nd {f : Str → Int} : ∀ (l : List Str) (acc : List Int), acc.Nodup → (l.foldl (ddS f) acc).Nodup
  | [], acc, h => h
  | n :: r, acc, h => dd_nd r _ (ddS_nd h n)
theorem erase_perm {α : Type} : ∀ (l : List α) (j : Nat) (y : α), l[j]? = some y → (y :: l.eraseIdx j).Perm l
  | [], j, y, h => by simp at h
  | a :: r, 0, y, h => by
    have : a = y := by simpa using h
    rw [this]
    exact List.Perm.refl _
  | a :: r, j + 1, y, h => by
    have ih := erase_perm r j y (by simpa using h)
    show (y :: a :: r.eraseIdx j).Perm (a :: r)
    exact (List.Perm.swap a y _).trans (ih.cons a)
noncomputable def spSome9 : Sp := fun vs H Q _ => ∃ (nl : Addr) (c m : Int) (ns : List Str), vs = [.ref nl, .int c, .int m] ∧ H nl = some (.lst (ns.map V.str)) ∧ 1 ≤ ns.length ∧ ns.length ≤ 24 ∧ 1 ≤ m ∧ ns.Nodup ∧
  ∀ (t : Addr) (fs : List Str) (H' : Hp), Same H H' → H' t = some (.tup (fs.map V.str)) → fs.length ≤ 24 → (∀ x ∈ fs, x ∈ ns) → fs.Nodup → Q (.ref t) H'
theorem ok_some9 (T : Txt K mg) : L2.Cl P w K mg base 2 "_law_some" ["_law_names_here", "_law_cell", "_law_most"] spSome9 := by
  have C_law_mixed := ok_mixed (P := P) (w := w) (base := base) T
  refine Cl.of T.d_law_some sc_law_some (fun vs H Q E h => ?_) (fun _ _ _ _ _ _ us hl => by obtain ⟨a, b, c, rfl⟩ := len3 hl; rfl) (fun f cdv A outer s H vs Q E hr h => ?_)
  · obtain ⟨nl, c, m, ns, rfl, _⟩ := h
    rfl
  · obtain ⟨nl, c, m, ns, rfl, hnl, hn1, hn2, hm, hnd, q⟩ := h
    refine ⟨_, (pss_cons (ps_set (i := 3) sc_law_some.nd rfl (Or.inl rfl) (pe_callTy call_list_of (by rfl) T.n_list boot_list (pa_cons (pv 0) pa_nil)))
      (pss_cons (ps_set (i := 4) sc_law_some.nd rfl (Or.inl rfl) (pe_lst pa_nil))
      (pss_cons (ps_for PassesOwn.never rfl (pi_range1 (by rfl) T.n_range (pa_cons (pe_op op_add pe_int (pe_op op_mod (pv 1) (pe_callB (call_min2 rfl) (by rfl) T.n_min boot_min (pa_cons (pv 2) (pa_cons (pe_callB call_len_seq (by rfl) T.n_len PySem.boot_len (pa_cons (pv 0) pa_nil)) pa_nil))))) pa_nil)) (pg_name (i := 5) sc_law_some.nd rfl (Or.inl rfl))
        (pss_one (ps_expr (pe_bm PySem.F.plainAttrs_list PySem.F.slot_list_append PySem.F.type_list_append mt_append (pv 4) (pa_cons (pe_bm PySem.F.plainAttrs_list PySem.F.slot_list_pop PySem.F.type_list_pop mt_popAt (pv 3) (pa_cons (pe_op op_mod (pe_fn C_law_mixed hr (by rfl) (pa_cons (pv 1) (pa_cons (pe_op op_add (pv 5) pe_int) (pa_cons pe_int pa_nil)))) (pe_callB call_len_seq (by rfl) T.n_len PySem.boot_len (pa_cons (pv 3) pa_nil))) pa_nil)) pa_nil)))))
      (pss_one (ps_ret (pe_callTy call_tuple_of (by rfl) T.n_tuple boot_tuple (pa_cons (pv 4) pa_nil))))))), ?_⟩
    refine ⟨_, rfl, nl, _, rfl, .inl (SqL.of hnl), fun L gL => ?_⟩
    have s1 : Same H (upd H L (.lst (ns.map V.str))) := (Same.refl H).new gL
    have hL1 : upd H L (.lst (ns.map V.str)) L = some (.lst (ns.map V.str)) := upd_same
    generalize upd H L (.lst (ns.map V.str)) = H1 at s1 hL1 ⊢
    refine ⟨(by show 0 ≤ sizeLine; decide), fun F gF => ?_⟩
    have hFL : F ≠ L := fun z => by rw [z, hL1] at gF; cases gF
    have s2 : Same H (upd H1 F (.lst [])) := s1.new gF
    have gFH : H F = none := s1.free gF
    have hb : ∃ k : Nat, (1 + c % (if ((ns.map V.str).length : Int) < m then ((ns.map V.str).length : Int) else m)).toNat = k ∧ k ≤ ns.length ∧ 0 < (if ((ns.map V.str).length : Int) < m then ((ns.map V.str).length : Int) else m) ∧ (1 + c % (if ((ns.map V.str).length : Int) < m then ((ns.map V.str).length : Int) else m)) < 100 ∧ 0 ≤ (1 + c % (if ((ns.map V.str).length : Int) < m then ((ns.map V.str).length : Int) else m)) := by
      rw [List.length_map]
      generalize hz : (if (ns.length : Int) < m then (ns.length : Int) else m) = z
      have hz1 : 0 < z ∧ z ≤ (ns.length : Int) := by
        split at hz <;> omega
      have h1 := Int.emod_nonneg c (show z ≠ 0 by omega)
      have h2 := Int.emod_lt_of_pos c hz1.1
      exact ⟨_, rfl, by omega, hz1.1, by omega, by omega⟩
    obtain ⟨k, hk, hkn, hzp, hz100, hz0⟩ := hb
    refine ⟨_, rfl, _, rfl, _, rfl, nl, _, rfl, .inl (SqL.of (s2 _ _ hnl)), _, _, rfl, _, _, rfl, rfl, hzp, _, _, rfl, rfl, _, rfl, by omega, by omega, ?_⟩
    rw [hk]
    refine for_range (fun i σ H5 => ∃ (v5 : Option V) (ls fs : List Str), σ = [some (.ref nl), some (.int c), some (.int m), some (.ref L), some (.ref F), v5] ∧ Same H H5 ∧ H5 L = some (.lst (ls.map V.str)) ∧ H5 F = some (.lst (fs.map V.str)) ∧ ls.length + i = ns.length ∧ fs.length = i ∧ (fs ++ ls).Perm ns)
      ⟨none, ns, [], rfl, s2, upd_keep hL1 gF, upd_same, rfl, rfl, List.Perm.refl _⟩ ?_ ?_
    · rintro i σ H5 hi ⟨v5, ls, fs, rfl, s5, hL5, hF5, hlen, hfl, hpm⟩
      have hpos : 0 < ls.length := by omega
      refine ⟨_, rfl, .inl ⟨rfl, _, SqL.of hF5⟩, _, rfl, .inl ⟨rfl, _, SqL.of hL5⟩, _, rfl, _, rfl, _, _, rfl, rfl, c, 0 + (i : Int) + 1, 65537, rfl, by omega, by omega, by decide, ?_⟩
      generalize mixM c (0 + (i : Int) + 1) 65537 = mx
      obtain ⟨y, hy, ey⟩ := atI_strs (l := ls) (mod_lt (i := mx) hpos).1 (mod_lt hpos).2
      obtain ⟨j, hj1, hj2, hj3, _⟩ := atI_get ey
      rw [List.length_map] at hj3
      have hmm := mod_lt (i := mx) hpos
      refine ⟨_, rfl, L, _, rfl, .inl (SqL.of hL5), _, _, rfl, rfl, (by rw [List.length_map]; show (0 : Int) < (ls.length : Int); omega), L, _, _, j, _, rfl, rfl, hL5, (by rw [List.length_map]; omega), (by rw [List.length_map]; omega), (by have := hj1; rw [List.length_map] at this ⊢; exact this), hj2, ?_⟩
      rw [erase_map]
      have hF6 : upd H5 L (.lst ((ls.eraseIdx j).map V.str)) F = some (.lst (fs.map V.str)) := by rw [upd_ne hFL]; exact hF5
      refine ⟨F, _, _, rfl, rfl, hF6, small1000 (by rw [List.length_map]; omega), _, ls.eraseIdx j, fs ++ [y], rfl, (s5.put gL).put gFH, ?_, ?_, ?_, ?_, ?_⟩
      · rw [upd_ne hFL.symm, upd_same]
      · rw [upd_same, List.map_append]; rfl
      · have := erase_len ls j hj3
        omega
      · rw [List.length_append, hfl]; rfl
      · have hyj : ls[j]? = some y := by
          rw [List.getElem?_map] at hj2
          obtain ⟨y', h1, h2⟩ := Option.map_eq_some_iff.mp hj2
          rw [← V.str.inj h2]
          exact h1
        obtain ⟨hjl, e1⟩ := List.getElem?_eq_some_iff.mp hyj
        have h3 : (y :: ls.eraseIdx j).Perm ls := by exact erase_perm ls j y hyj
        rw [List.append_assoc]
        exact (h3.append_left fs).trans hpm
    · rintro σ H5 ⟨v5, ls, fs, rfl, s5, hL5, hF5, hlen, hfl, hpm⟩
      refine ⟨_, rfl, F, _, rfl, .inl ⟨SqL.of hF5, fun t gt => ?_⟩⟩
      exact q t fs _ (s5.new gt) upd_same (by omega) (fun x hx => hpm.mem_iff.mp (List.mem_append_left _ hx)) (List.nodup_append.mp (hpm.nodup_iff.mpr hnd)).1
noncomputable def CutH (H : Hp) (v : V) (kss : List (List Nat)) : Prop := ∃ p ws, v = .ref p ∧ H p = some (.tup ws) ∧ Paired (PAt H) ws kss
theorem paired_map {α β γ : Type} {F : α → β → Prop} {G : α → γ → Prop} {g : β → γ} : ∀ {xs : List α} {ys : List β}, Paired F xs ys → (∀ x y, y ∈ ys → F x y → G x (g y)) → Paired G xs (ys.map g)
  | [], [], .nil, _ => .nil
  | _ :: _, _ :: _, .cons h t, k => .cons (k _ _ List.mem_cons_self h) (paired_map t fun x y hy => k x y (List.mem_cons_of_mem _ hy))
theorem cut_full {xs : List V} {k : Nat} (h : xs.length ≤ k) : cutV xs none (some ((k : Nat) : Int)) = xs := by
  unfold cutV
  rw [HT.sIx_none, HT.sIx_nat, Nat.min_eq_right h, List.drop_zero, Nat.sub_zero, List.take_length]
theorem cut63 {xs : List V} (h : xs.length ≤ 63) : cutV xs none (some 63) = xs := cut_full (k := 63) h
noncomputable def spLaw (K : PySem.W.Frag) : Sp := fun vs H Q _ => ∃ (a : Addr) (ns : List Int), vs = [.ref a] ∧ SqL K H a (ns.map V.int) ∧ ns.length ≤ 63 ∧ ∀ H', Q (.bl true) H'
theorem law_fn {f : Addr} {fd : FuncData} (F : Fun K "law" "law" s_law f fd) (T : Txt K mg) : FnOk P w K mg base CX0 7 f fd ["_law_script"] (spLaw K) := by
  have C_law_cell_at := ok_cell (P := P) (w := w) (base := base) T
  have C_law_names := ok_names (P := P) (w := w) (base := base) T
  have C_law_parts := ok_parts (P := P) (w := w) (base := base) T
  have C_law_some := ok_some9 (P := P) (w := w) (base := base) T
  have C_law_come := ok_come (P := P) (w := w) (base := base) T
  have C_groups := ok_groups (P := P) (w := w) (base := base) T
  have C_law_toll := ok_toll (P := P) (w := w) (base := base) T
  have C_tight := ok_tight (P := P) (w := w) (base := base) T
  have C_single := ok_single (P := P) (w := w) (base := base) T
  have C_cheapest := ok_cheap9 (P := P) (w := w) (base := base) T
  have C_price := ok_price (P := P) (w := w) (base := base) T
  have C_law_packs := ok_packs (P := P) (w := w) (base := base) T
  have C_law_each_once := ok_each (P := P) (w := w) (base := base) T
  have C_law_paid := ok_paid9 (P := P) (w := w) (base := base) T
  have C_law_apart := ok_apart (P := P) (w := w) (base := base) T
  refine F.ok sc_law (fun vs H Q E h => ?_) (fun cdv A outer s H vs Q E hr h => ?_)
  · obtain ⟨a, ns, rfl, _⟩ := h
    rfl
  · obtain ⟨a, ns, rfl, hS, hlen, q⟩ := h
    have hu := hu_of hr
    have hu2 := Nat.lt_of_le_of_lt (Nat.add_le_add_left (by decide : 1 + 1 ≤ 64) _) hr.units
    rw [← Nat.add_assoc] at hu2
    refine ⟨_, (pss_cons (ps_set (i := 1) sc_law.nd rfl (Or.inl rfl) (pe_op op_add pe_int (pe_op op_mod (pe_fn C_law_cell_at hr (by rfl) (pa_cons (pv 0) (pa_cons pe_int pa_nil))) pe_int)))
      (pss_cons (ps_if (pt_cmpR op_eq (pe_op op_mod (pe_op op_fdiv (pe_fn C_law_cell_at hr (by rfl) (pa_cons (pv 0) (pa_cons pe_int pa_nil))) pe_int) pe_int) pe_int (nomark _))
        (pss_one (ps_set (i := 1) sc_law.nd rfl (Or.inl rfl) (pe_op op_sub pe_int (pe_op op_mod (pe_op op_fdiv (pe_fn C_law_cell_at hr (by rfl) (pa_cons (pv 0) (pa_cons pe_int pa_nil))) pe_int) pe_int)))) pss_nil)
      (pss_cons (ps_set (i := 2) sc_law.nd rfl (Or.inl rfl) (pe_fn C_law_names hr (by rfl) (pa_cons (pe_fn C_law_cell_at hr (by rfl) (pa_cons (pv 0) (pa_cons pe_int pa_nil))) (pa_cons (pv 1) pa_nil))))
      (pss_cons (ps_set (i := 3) sc_law.nd rfl (Or.inr rfl) (pe_fn C_law_parts hr (by rfl) (pa_cons (pe_slice sl_list (pv 0) po_none (po_some pe_int)) (pa_cons pe_int (pa_cons (pv 2) (pa_cons (pe_op op_mod (pe_fn C_law_cell_at hr (by rfl) (pa_cons (pv 0) (pa_cons pe_int pa_nil))) pe_int) pa_nil))))))
      (pss_cons (ps_set (i := 4) sc_law.nd rfl (Or.inr rfl) (pe_fn C_law_some hr (by rfl) (pa_cons (pv 2) (pa_cons (pe_fn C_law_cell_at hr (by rfl) (pa_cons (pv 0) (pa_cons pe_int pa_nil))) (pa_cons pe_int pa_nil)))))
      (pss_cons (ps_set (i := 5) sc_law.nd rfl (Or.inl rfl) (pe_fn C_law_toll hr (by rfl) (pa_cons (pe_fn C_law_cell_at hr (by rfl) (pa_cons (pv 0) (pa_cons pe_int pa_nil))) pa_nil)))
      (pss_cons (ps_set (i := 6) sc_law.nd rfl (Or.inl rfl) (pe_fn C_groups hr (by rfl) (pa_cons (pv 3) (pa_cons (pv 4) pa_nil))))
      (pss_cons (ps_set (i := 7) sc_law.nd rfl (Or.inr rfl) (pe_lst pa_nil))
      (pss_cons (ps_for PassesOwn.never rfl (pi_tup (pv 3)) (pg_tup rfl (pgs_cons (pg_name (i := 8) sc_law.nd rfl (Or.inl rfl)) (pgs_cons (pg_name (i := 9) sc_law.nd rfl (Or.inl rfl)) pgs_nil)))
        (pss_one (ps_expr (pe_bm PySem.F.plainAttrs_list PySem.F.slot_list_extend PySem.F.type_list_extend mt_extend (pv 7) (pa_cons (pe_comp (M := ["_law_row_here"]) (ρ := [none]) (defScope s_law) ["_law_script", "_law_many", "_law_names_here", "_law_parts_here", "_law_begun", "_law_toll_here", "_law_told", "_law_asked", "_law_name", "_law_rows", "_law_come_here", "_law_paid_here", "_law_cut", "_law_packs_here"] ⟨rfl, by decide +kernel, by decide +kernel, by decide +kernel, rfl, by decide +kernel, by decide +kernel⟩ (pi_tup (pv 9)) (fun _ _ _ _ _ _ => (pg_name (i := 0) (show (["_law_row_here"] : List Str).Nodup by decide +kernel) rfl (Or.inl rfl))) (fun _ _ _ _ _ _ => (pts_one (pt_cmpR op_eq (pe_ix (ix_tupK (K := K) rfl) (pv 0) pe_int (fun _ _ => rfl)) pe_str (nomark _)))) (fun _ _ _ _ _ _ => (pe_ix (ix_tupK (K := K) rfl) (pv 0) pe_int (fun _ _ => rfl)))) pa_nil)))))
      (pss_cons (ps_set (i := 4) sc_law.nd rfl (Or.inr rfl) (pe_op op_catA (pv 4) (pe_callTy call_tuple_of (by rfl) T.n_tuple boot_tuple (pa_cons (pe_comp (M := ["_law_name", "_law_asked", "_law_begun"]) (ρ := [none, some 7, some 4]) (defScope s_law) ["_law_script", "_law_many", "_law_names_here", "_law_parts_here", "_law_begun", "_law_toll_here", "_law_told", "_law_asked", "_law_name", "_law_rows", "_law_come_here", "_law_paid_here", "_law_cut", "_law_packs_here"] ⟨rfl, by decide +kernel, by decide +kernel, by decide +kernel, rfl, by decide +kernel, by decide +kernel⟩ (pi_list (pv 2)) (fun _ _ _ _ _ _ => (pg_name (i := 0) (show (["_law_name", "_law_asked", "_law_begun"] : List Str).Nodup by decide +kernel) rfl (Or.inl rfl))) (fun _ _ _ _ _ _ => (pts_one (PW.pt (pw_and (pt_cmpR (op_in_seqK (K := K) rfl) (pv 0) (pv 1) (by with_unfolding_all rfl)) (pw_and1 (pt_cmpR (op_notin_seqK (K := K) rfl) (pv 0) (pv 2) (by with_unfolding_all rfl))))))) (fun _ _ _ _ _ _ => (pv 0))) pa_nil))))
      (pss_cons (ps_setC (j := 10) (M := ["_law_root", "_law_parts_here"]) (ρ := [none, some 3]) (defScope s_law) ["_law_script", "_law_many", "_law_names_here", "_law_parts_here", "_law_begun", "_law_toll_here", "_law_told", "_law_asked", "_law_name", "_law_rows", "_law_come_here", "_law_paid_here", "_law_cut", "_law_packs_here"] ⟨rfl, by decide +kernel, by decide +kernel, by decide +kernel, rfl, by decide +kernel, by decide +kernel⟩ sc_law.nd rfl (Or.inl rfl) (pi_tup (pv 4)) (fun _ _ _ _ _ _ => (pg_name (i := 0) (show (["_law_root", "_law_parts_here"] : List Str).Nodup by decide +kernel) rfl (Or.inl rfl))) (fun _ _ _ _ _ _ => pts_nil) (fun _ _ _ _ _ _ => (pe_fn C_law_come hr (by rfl) (pa_cons (pv 1) (pa_cons (pv 0) pa_nil)))))
      (pss_cons (ps_set (i := 11) sc_law.nd rfl (Or.inl rfl) (pe_lst pa_nil))
      (pss_cons (ps_for PassesOwn.never rfl (pi_list (pe_lst (pa_cons (pe_fn C_tight hr (by rfl) (pa_cons (pv 6) pa_nil)) (pa_cons (pe_fn C_single hr (by rfl) (pa_cons (pv 6) pa_nil)) (pa_cons (pe_fn C_cheapest hr (by rfl) (pa_cons (pv 6) (pa_cons (pv 5) pa_nil))) pa_nil))))) (pg_name (i := 12) sc_law.nd rfl (Or.inl rfl))
        (pss_cons (ps_set (i := 13) sc_law.nd rfl (Or.inl rfl) (pe_fn C_law_packs hr (by rfl) (pa_cons (pv 6) (pa_cons (pv 12) pa_nil))))
        (pss_cons (ps_if (pt_not (pt_val (pe_fn C_law_each_once hr (by rfl) (pa_cons (pv 2) (pa_cons (pv 10) (pa_cons (pv 13) pa_nil))))))
          (pss_one (ps_ret pe_bl)) pss_nil)
        (pss_cons (ps_expr (pe_bm PySem.F.plainAttrs_list PySem.F.slot_list_append PySem.F.type_list_append mt_append (pv 11) (pa_cons (pe_fn C_law_paid hr (by rfl) (pa_cons (pv 3) (pa_cons (pv 10) (pa_cons (pv 13) (pa_cons (pv 5) pa_nil))))) pa_nil)))
        (pss_one (ps_if (pt_cmpR op_ne (pe_fn C_price hr (by rfl) (pa_cons (pv 6) (pa_cons (pv 5) (pa_cons (pv 12) pa_nil)))) (pe_ix ix_list (pv 11) (pe_un un_neg pe_int) (fun _ _ => rfl)) (nomark _))
          (pss_one (ps_ret pe_bl)) pss_nil))))))
      (pss_cons (ps_if (pt_not (pt_val (pe_fn C_law_apart hr (by rfl) (pa_cons (pv 10) (pa_cons (pe_fn C_law_packs hr (by rfl) (pa_cons (pv 6) (pa_cons (pe_fn C_tight hr (by rfl) (pa_cons (pv 6) pa_nil)) pa_nil))) pa_nil)))))
        (pss_one (ps_ret pe_bl)) pss_nil)
      (pss_one (ps_ret (pe_and (pe_cmpR op_le (pe_ix ix_list (pv 11) pe_int (fun _ _ => rfl)) (pe_ix ix_list (pv 11) pe_int (fun _ _ => rfl)) (nomark _)) (pe_one (pe_cmpR op_le (pe_ix ix_list (pv 11) pe_int (fun _ _ => rfl)) (pe_ix ix_list (pv 11) pe_int (fun _ _ => rfl)) (nomark _)))))))))))))))))))), ?_⟩
    refine ⟨_, rfl, a, ns, 1, rfl, hS, by decide, fun c => ⟨_, _, rfl, rfl, (by show (0 : Int) < 7; decide), _, _, rfl, rfl, ?_⟩⟩
    refine g_if_any (Pv := One24) (fun Q' h => ⟨_, rfl, a, ns, 1, rfl, hS, by decide, fun c1 => ⟨_, _, rfl, rfl, ⟨by decide, by decide⟩, _, _, rfl, rfl, (by show (0 : Int) < 4; decide), rfl, _, rfl, h _⟩⟩) (fun Q' h => ⟨_, rfl, a, ns, 1, rfl, hS, by decide, fun c1 => ⟨_, _, rfl, rfl, ⟨by decide, by decide⟩, _, _, rfl, rfl, (by show (0 : Int) < 24; decide), _, _, rfl, rfl, h _ ⟨_, rfl, by omega, by omega⟩⟩⟩) ⟨_, rfl, by omega, by omega⟩ ?_
    rintro _ ⟨n, rfl, hn1, hn2⟩
    refine ⟨_, rfl, a, ns, 0, rfl, hS, by decide, fun c0 => ⟨_, rfl, c0, n, rfl, hn1, hn2, fun nl nms H1 s1 _ hnl hnml hnd => ?_⟩⟩
    have hS1 : SqL K H1 a (ns.map V.int) := s1.seq hS
    refine ⟨_, rfl, _, rfl, a, _, rfl, hS1, fun sl gsl => ?_⟩
    rw [cut63 (by rw [List.length_map]; omega)]
    have s1' : Same H1 (upd H1 sl (.lst (ns.map V.int))) := (Same.refl H1).new gsl
    have hsl : upd H1 sl (.lst (ns.map V.int)) sl = some (.lst (ns.map V.int)) := upd_same
    generalize upd H1 sl (.lst (ns.map V.int)) = H1' at s1' hsl ⊢
    have hnl' := s1' _ _ hnl
    refine ⟨_, rfl, _, rfl, a, ns, 2, rfl, s1'.seq hS1, by decide, fun d => ⟨_, _, rfl, rfl, (by show (0 : Int) < 6; decide), sl, ns, 5, d % 6, nl, nms, rfl, SqL.of hsl, hlen, by decide, by decide, hnl', by omega, by omega, hnd, fun x ps H2 s2 hpf hnm hfit hinN => ?_⟩⟩
    have hcl := closedB_of hnm hnd hinN
    have s12 := (s1.trans s1').trans s2
    have hnl2 := s2 _ _ hnl'
    refine ⟨_, rfl, _, rfl, a, ns, 3, rfl, s12.seq hS, by decide, fun c3 => ⟨nl, c3, 12, nms, rfl, hnl2, by omega, by omega, by decide, hnd, fun b bs Hb sb hbb hbl hbin hbnd => ?_⟩⟩
    refine ⟨_, rfl, a, ns, 4, rfl, (s12.trans sb).seq hS, by decide, fun c4 => ⟨_, rfl, fun toll => ?_⟩⟩
    refine ⟨_, rfl, _, rfl, x, b, ps, bs, rfl, sb.partsF hpf, hfit, hcl, hbb, by omega, fun r hr => by rw [hnm]; exact hbin r hr, fun ga gs H3 sG hga hgs => ?_⟩
    have s3 := sb.trans sG
    have hb := sG _ _ hbb
    have s123 := s12.trans s3
    have hpf3 := s3.partsF hpf
    have hnl3 := s3 _ _ hnl2
    obtain ⟨oo, ws, ha, ho, hps⟩ := id hpf3
    have sqx : ∀ {H' : Hp}, Same H3 H' → SqT K H' x ws := fun s2 => .inl (.inr ⟨oo, s2 _ _ ha⟩)
    have hwl : ws.length = ps.length := Paired.length hps
    have hpi := hfit.hi
    have hpn : ps.length = nms.length := by rw [← hnm, List.length_map]
    refine ⟨(by show 0 ≤ sizeLine; decide), fun L gL => ?_⟩
    have s4 : Same H3 (upd H3 L (.lst [])) := (Same.refl H3).new gL
    have haskL : ∀ i, (((ps.take i).flatMap fun pt => pt.2.filterMap askN)).length ≤ 960 := fun i => by
      have h1 := flat_len (ps := ps.take i) fun pt hpt => hfit.rows pt (List.mem_of_mem_take hpt)
      rw [List.length_take] at h1
      omega
    refine ⟨_, rfl, x, rfl, ⟨_, sqx s4⟩, for_tup (K := K) (a := x) (xs := ws) (fun i σ H5 => ∃ v6 v7 : Option V, σ = [some (.ref a), some (.int n), some (.ref nl), some (.ref x), some (.ref b), some (.int toll), some (.ref ga), some (.ref L), v6, v7, none, none, none, none] ∧ Same H3 H5 ∧ H5 L = some (.lst (((ps.take i).flatMap fun pt => pt.2.filterMap askN).map V.str)))
      ⟨none, none, rfl, s4, by rw [upd_same]; simp⟩ (fun i σ H5 _ ⟨_, _, _, s5, _⟩ => sqx s5) ?_ ?_⟩
    · rintro i y σ H5 hy ⟨v6, v7, rfl, s5, hL5⟩
      obtain ⟨pt, hpt, t, u, zs, ey, ht, hu', hrs⟩ := Paired.get? hps hy
      subst ey
      have hzl : zs.length = pt.2.length := Paired.length hrs
      have h40 := hfit.rows _ (List.mem_of_getElem? hpt)
      refine ⟨t, _, rfl, SqT.of (s5 _ _ ht), rfl, _, _, rfl, _, _, rfl, rfl, ?_⟩
      refine ⟨_, rfl, .inl ⟨rfl, _, SqL.of hL5⟩, _, rfl, u, rfl, ⟨_, SqT.of (s5 _ _ hu')⟩, fun D gD => ?_⟩
      refine comp_by zs.length (fun j σ H6 => ∃ v0 : Option V, σ = [v0] ∧ Same H5 H6 ∧ H6 D = some (.lst (((pt.2.take j).filterMap askN).map V.str))) ⟨_, rfl, (Same.refl H5).new gD, upd_same⟩ ?_ ?_
      · rintro j σ H6 hj ⟨v0, rfl, s6, hD6⟩
        have hu6 := s6 _ _ (s5 _ _ hu')
        refine ⟨⟨zs, zs[j], SqT.of hu6, by simp⟩, ?_⟩
        rintro y H7 ⟨rfl, hy7⟩
        obtain ⟨rw, hrw, r, er, hra⟩ := Paired.get? hrs (hy7 _ (SqT.of hu6))
        subst er
        have hra7 := hra.mono (s5.trans s6).tups
        have hl7 : (((pt.2.take j).filterMap askN).map V.str).length ≤ 40 := by
          rw [List.length_map]
          have h2 : ((pt.2.take j).filterMap askN).length ≤ (pt.2.take j).length := List.length_filterMap_le _ _
          rw [List.length_take] at h2
          omega
        rcases row_ask hra7 with ⟨m, rest, hm, hk, hrt⟩ | ⟨hm, hk, x1, rest, hrt⟩
        · have z0 : atI (V.str "ask" :: V.str m :: rest) 0 = some (.str "ask") := atI_nat (j := 0) rfl
          have z1 : atI (V.str "ask" :: V.str m :: rest) 1 = some (.str m) := atI_nat (j := 1) rfl
          refine ⟨_, rfl, r, _, _, _, rfl, rfl, SqT.of hrt, z0, rfl, _, rfl, iteSE ?_⟩
          refine ⟨_, rfl, r, _, _, _, rfl, rfl, SqT.of hrt, z1, _, hD6, small1000 (by omega), _, rfl, s6.put gD, ?_⟩
          rw [upd_same, take_succ_get hrw, List.filterMap_append, List.map_append]
          simp [hm]
        · have z0 : atI (V.str (kindS rw) :: x1 :: rest) 0 = some (.str (kindS rw)) := atI_nat (j := 0) rfl
          refine ⟨_, rfl, r, _, _, _, rfl, rfl, SqT.of hrt, z0, rfl, _, rfl, iteSN hk ?_⟩
          refine ⟨_, rfl, s6, ?_⟩
          rw [take_succ_get hrw, List.filterMap_append, hD6]
          simp [hm]
      · rintro σ H6 ⟨v0, rfl, s6, hD6⟩
        refine ⟨⟨zs, SqT.of (s6 _ _ (s5 _ _ hu')), Nat.le_refl _⟩, ?_⟩
        rw [hzl, List.take_length] at hD6
        have hL6 := s6 _ _ hL5
        have hfl : ((ps.take (i + 1)).flatMap fun pt => pt.2.filterMap askN) = ((ps.take i).flatMap fun pt => pt.2.filterMap askN) ++ pt.2.filterMap askN := by
          rw [take_succ_get hpt, List.flatMap_append]
          simp
        have hll := haskL (i + 1)
        rw [hfl, List.length_append] at hll
        refine ⟨L, D, _, _, rfl, rfl, hL6, hD6, Nat.le_of_lt (small1000 (by rw [List.length_map, List.length_map]; omega)), _, _, rfl, (s5.trans s6).put gL, ?_⟩
        rw [upd_same, hfl, List.map_append]
    · rintro σ H5 ⟨v6, v7, rfl, s5', hL5'⟩
      rw [hwl, List.take_length] at hL5'
      have hAL : (ps.flatMap fun pt => pt.2.filterMap askN) = asked ps := (asked_flat ps).symm
      rw [hAL] at hL5'
      have s5 := s5'
      have hL5 := hL5'
      have hroots : rootsOf ps bs = bs ++ nms.filter fun n => decide (n ∈ asked ps) && !decide (n ∈ bs) := by unfold rootsOf; rw [hnm]
      generalize asked ps = AL at hL5 hroots
      have hnl5 := s5 _ _ hnl3
      have hb5 := s5 _ _ hb
      refine ⟨_, rfl, _, rfl, nl, rfl, ⟨_, SqL.of hnl5⟩, fun D gD => ?_⟩
      refine comp_by nms.length (fun i σ H6 => ∃ v0 : Option V, σ = [v0, some (.ref L), some (.ref b)] ∧ Same H5 H6 ∧ H6 D = some (.lst (((nms.take i).filter fun n => decide (n ∈ AL) && !decide (n ∈ bs)).map V.str))) ⟨_, rfl, (Same.refl H5).new gD, by rw [upd_same]; simp⟩ ?_ ?_
      · rintro i σ H6 hi ⟨v0, rfl, s6, hD6⟩
        refine ⟨⟨_, .str nms[i], SqL.of (s6 _ _ hnl5), by simp [hi]⟩, ?_⟩
        rintro y H7 ⟨rfl, hy7⟩
        have hn : nms[i]? = some nms[i] := by simp [hi]
        have ey : y = .str nms[i] := Option.some.inj ((hy7 _ (SqL.of (s6 _ _ hnl5))).symm.trans (by rw [List.getElem?_map, hn]; rfl))
        subst ey
        refine tand_pure (a := decide (nms[i] ∈ AL)) (b := !decide (nms[i] ∈ bs)) (fun Q' h => ⟨_, rfl, _, rfl, L, _, rfl, .inl (SqL.of (s6 _ _ hL5)), rfl, strs_flat _, _, rfl, by rw [if_neg Bool.false_ne_true, inV_strs]; exact h⟩) (fun Q' h => ⟨_, rfl, _, rfl, b, _, rfl, .inr (SqT.of (s6 _ _ hb5)), rfl, strs_flat _, _, rfl, by rw [if_pos rfl, inV_strs]; exact h⟩) _ ?_
        refine ite2 (fun hc => ?_) (fun hc => ?_)
        · refine ⟨_, rfl, _, hD6, small1000 ?_, _, rfl, s6.put gD, ?_⟩
          · rw [List.length_map]
            have h2 := List.length_filter_le (fun n => decide (n ∈ AL) && !decide (n ∈ bs)) (nms.take i)
            rw [List.length_take] at h2
            omega
          · rw [upd_same, filter_snoc hn, if_pos hc, List.map_append]
            rfl
        · refine ⟨_, rfl, s6, ?_⟩
          rw [filter_snoc hn, if_neg hc, List.append_nil]
          exact hD6
      · rintro σ H6 ⟨v0, rfl, s6, hD6⟩
        refine ⟨⟨_, SqL.of (s6 _ _ hnl5), by simp⟩, ?_⟩
        rw [List.take_length] at hD6
        refine ⟨D, _, rfl, .inl ⟨SqL.of hD6, fun t gt => ?_⟩⟩
        have s7 := s6.new (o := .tup ((nms.filter fun n => decide (n ∈ AL) && !decide (n ∈ bs)).map V.str)) gt
        have hfl := List.length_filter_le (fun n => decide (n ∈ AL) && !decide (n ∈ bs)) nms
        refine cat_same (s7 _ _ hb5) upd_same (by rw [List.length_map, List.length_map]; omega) fun rt H8 s8 hrt => ?_
        have s38 := (s5.trans s7).trans s8
        rw [← List.map_append] at hrt
        have hrl : (bs ++ nms.filter fun n => decide (n ∈ AL) && !decide (n ∈ bs)).length ≤ 24 := by
          have hndr : (bs ++ nms.filter fun n => decide (n ∈ AL) && !decide (n ∈ bs)).Nodup := by
            rw [List.nodup_append]
            refine ⟨hbnd, hnd.filter _, fun u hu v hv e => ?_⟩
            have h1 := (List.mem_filter.mp hv).2
            rw [← e] at h1
            simp at h1
            exact h1.2 hu
          have h2 := nodup_lenG _ nms hndr fun u hu => by
            rcases List.mem_append.mp hu with z | z
            · exact hbin u z
            · exact (List.mem_filter.mp z).1
          omega
        have hrN : ∀ r ∈ (bs ++ nms.filter fun n => decide (n ∈ AL) && !decide (n ∈ bs)), r ∈ ps.map (·.1) := fun r hr => by
          rw [hnm]
          rcases List.mem_append.mp hr with z | z
          · exact hbin r z
          · exact (List.mem_filter.mp z).1
        rw [← hroots] at hrt hrl hrN
        generalize rootsOf ps bs = rs at hrt hrl hrN hgs
        have hpf8 := s38.partsF hpf3
        refine ⟨_, rfl, rt, rfl, ⟨_, SqT.of hrt⟩, fun D2 gD2 => ?_⟩
        refine comp_by rs.length (fun i σ H9 => ∃ (v0 : Option V) (us : List V) (Ls : List (List Str)), σ = [v0, some (.ref x)] ∧ Same H8 H9 ∧ H9 D2 = some (.lst us) ∧ us.length = i ∧ Paired (LsD D2 H9) us Ls ∧ Paired (fun r L => ∀ m, m ∈ L ↔ Rc (k1 ps) r m) (rs.take i) Ls) ⟨_, [], [], rfl, (Same.refl H8).new gD2, upd_same, rfl, .nil, by rw [List.take_zero]; exact .nil⟩ ?_ ?_
        · rintro i σ H9 hi ⟨v0, us, Ls, rfl, s9, hD9, hul, hLs, hRs⟩
          refine ⟨⟨_, .str rs[i], SqT.of (s9 _ _ hrt), by simp [hi]⟩, ?_⟩
          rintro y H10 ⟨rfl, hy⟩
          have hn : rs[i]? = some rs[i] := by simp [hi]
          have ey : y = .str rs[i] := Option.some.inj ((hy _ (SqT.of (s9 _ _ hrt))).symm.trans (by rw [List.getElem?_map, hn]; rfl))
          subst ey
          refine ntG ?_
          refine ⟨_, rfl, _, rfl, x, ps, rs[i], rfl, s9.partsF hpf8, hfit, hcl, hrN _ (List.getElem_mem hi), fun l Lc H11 s11 gl hl _ hLm => ?_⟩
          have hlD : l ≠ D2 := fun z => by rw [z, hD9] at gl; cases gl
          refine ⟨us, s11 _ _ hD9, small1000 (by omega), _, us ++ [.ref l], Ls ++ [Lc], rfl, (s9.trans s11).put gD2, upd_same, by rw [List.length_append, hul]; rfl, ?_, ?_⟩
          · refine Paired.snoc (Paired.mapP hLs fun _ _ ⟨t, e, h1, h2⟩ => ⟨t, e, h1, ?_⟩) ⟨l, rfl, hlD, ?_⟩
            · rw [upd_ne h1]; exact s11 _ _ h2
            · rw [upd_ne hlD]; exact hl
          · rw [take_succ_get hn]
            exact Paired.snoc hRs hLm
        · rintro σ H9 ⟨v0, us, Ls, rfl, s9, hD9, hul, hLs, hRs⟩
          refine ⟨⟨_, SqT.of (s9 _ _ hrt), by simp⟩, ?_⟩
          rw [List.take_length] at hRs
          have s39 := s38.trans s9
          have hpf9 := s9.partsF hpf8
          have hnl9 := s39 _ _ hnl3
          have hrt9 := s9 _ _ hrt
          have hS9 : ∀ {H' : Hp}, Same H9 H' → SqL K H' a (ns.map V.int) := fun s => (s123.trans (s39.trans s)).seq hS
          have hga9 := s39 _ _ hga
          have hgs9 : Paired (GrAt ps (tintF ps rs) H9) gs (dd (tintF ps rs) (ps.map (·.1))) := Paired.mapP hgs fun _ _ ⟨g', tn, h1, h2, h3⟩ => ⟨g', tn, h1, s39 _ _ h2, s39 _ _ h3⟩
          have hLl : Ls.length ≤ 24 := by rw [← Paired.length hRs]; exact hrl
          have hW9 : Paired (WAt H9) us Ls := Paired.mapP hLs fun _ _ ⟨t, e, _, h2⟩ => ⟨t, e, h2⟩
          have hN24 : (ps.map (·.1)).length ≤ 24 := by rw [List.length_map]; exact hpi
          have htn : Tn (ps.map (·.1)) Ls (tintF ps rs) (dd (tintF ps rs) (ps.map (·.1))) := ⟨fun n => (bits_rc hRs).symm, hLl, fun t => dd_mem, dd_nd _ _ List.nodup_nil, by have := dd_len (f := tintF ps rs) (ps.map (·.1)) []; simp only [List.length_nil] at this; unfold dd; omega⟩
          generalize tintF ps rs = f0 at hgs9 htn
          generalize hts : dd f0 (ps.map (·.1)) = ts at hgs9 htn
          have hNd : (ps.map (·.1)).Nodup := by rw [hnm]; exact hnd
          obtain ⟨gG, hgG⟩ : ∃ gG, gsOf f0 (ps.map (·.1)) (fun t => szN ps (gn f0 (ps.map (·.1)) t)) ts = gG := ⟨_, rfl⟩
          obtain ⟨nss, hnss⟩ : ∃ nss, ts.map (gn f0 (ps.map (·.1))) = nss := ⟨_, rfl⟩
          have hG9 : Paired (GAt H9) gs gG := by
            rw [← hgG]
            refine paired_map hgs9 fun v t ht ⟨g', tn, h1, h2, h3⟩ => ⟨g', .ref tn, h1, ?_⟩
            have := ((htn.mem t).mp ht).1
            rw [h2]
            show _ = some (HO.tup [V.int ((t.toNat : Nat) : Int), _, _])
            rw [show ((t.toNat : Nat) : Int) = t by omega]
          have hNA9 : Paired (NAt H9) gs nss := by
            rw [← hnss]
            exact paired_map hgs9 fun v t ht ⟨g', tn, h1, h2, h3⟩ => ⟨g', tn, _, _, h1, h2, h3⟩
          have hGok : GsOk gG := by
            rw [← hgG]
            refine ⟨fun g hg => ?_⟩
            obtain ⟨t, ht, rfl⟩ := List.mem_map.mp hg
            obtain ⟨_, n0, _, hn0⟩ := (htn.mem t).mp ht
            show t.toNat < 2 ^ 24
            rw [← hn0, htn.f_eq]
            refine Nat.lt_of_lt_of_le (bitsI_ltN _) (Nat.pow_le_pow_right (by decide) ?_)
            rw [List.length_map]
            exact hLl
          have hGl : gG.length = ts.length := by rw [← hgG]; unfold gsOf; rw [List.length_map]
          have hnl0 : nss.length = ts.length := by rw [← hnss, List.length_map]
          have hgsl : gs.length = ts.length := Paired.length hgs9
          have ht24 := htn.few
          have hnss24 : ∀ n0 ∈ nss, n0.length ≤ 24 := fun n0 h0 => by
            rw [← hnss] at h0
            obtain ⟨t, _, rfl⟩ := List.mem_map.mp h0
            exact Nat.le_trans (List.length_filter_le _ _) hN24
          have hpin : ∀ ks, (∀ k ∈ ks, k < ts.length) → ks.length ≤ 24 → (packN nss ks).length ≤ 600 ∧ ∀ n0 ∈ packN nss ks, n0 ∈ ps.map (·.1) := fun ks hk hl => by
            refine ⟨by have := packN_len hnss24 ks; omega, fun n0 h0 => ?_⟩
            rw [← hnss] at h0
            exact ((pack_mem hk).mp h0).1
          have hpaid : ∀ kss, Cut9 kss ts.length → totP gG toll kss = paidF ps toll Ls (kss.map (packN nss)) := fun kss hc => by
            rw [← hgG, ← hnss]
            exact htn.paid hNd (by rw [hgG]; exact hGok) toll hc.lt
          have honce : ∀ kss, Cut9 kss ts.length → ∀ n0 ∈ nms, cntL n0 (kss.map (packN nss)) = if cntL n0 Ls = 0 then 0 else 1 := fun kss hc n0 h0 => by
            rw [← hnss]
            exact htn.once hc n0 (by rw [hnm]; exact h0)
          have hapart := htn.apart
          rw [hnss] at hapart
          refine ⟨(by show 0 ≤ sizeLine; decide), fun PL gPL => ?_⟩
          have s10 : Same H9 (upd H9 PL (.lst [])) := (Same.refl H9).new gPL
          have hPL10 : upd H9 PL (.lst []) PL = some (.lst []) := upd_same
          generalize upd H9 PL (.lst []) = H10 at s10 hPL10 ⊢
          refine ⟨_, rfl, ga, gs, rfl, s10 _ _ hga9, by omega, fun p1 ws1 H11 s11 hp1 hw1 => ?_⟩
          refine ⟨_, rfl, ga, gs, rfl, s11 _ _ (s10 _ _ hga9), by omega, fun p2 ws2 H12 s12' hp2 hw2 => ?_⟩
          have sA := (s10.trans s11).trans s12'
          refine ⟨_, rfl, _, rfl, ga, gs, gG, toll, rfl, sA _ _ hga9, Paired.mapP hG9 fun _ _ z => z.mono sA.tups, hGok, by omega, fun p3 ws3 kss H13 s13 hp3 hw3 hc3 hle1 hle2 => ?_⟩
          refine ⟨(by show 3 ≤ sizeLine; decide), fun cu gcu => ?_⟩
          rw [hgsl] at hw1 hw2
          rw [hGl] at hc3 hle1 hle2
          have T13 : Tups H10 H13 := (s11.trans (s12'.trans s13)).tups
          have s1013 := s11.trans (s12'.trans s13)
          have hcu : upd H13 cu (.lst [.ref p1, .ref p2, .ref p3]) cu = some (.lst [.ref p1, .ref p2, .ref p3]) := upd_same
          have s14 : Same H13 (upd H13 cu (.lst [.ref p1, .ref p2, .ref p3])) := (Same.refl H13).new gcu
          have hPL14 := s14 _ _ (s1013 _ _ hPL10)
          have hcPL : cu ≠ PL := fun z => by rw [z] at gcu; rw [s1013 _ _ hPL10] at gcu; cases gcu
          have C1 : CutH (upd H13 cu (.lst [.ref p1, .ref p2, .ref p3])) (.ref p1) (tightC ts.length) := ⟨p1, ws1, rfl, (s12'.trans (s13.trans s14)) _ _ hp1, Paired.mapP hw1 fun _ _ z => z.mono (s12'.trans (s13.trans s14)).tups⟩
          have C2 : CutH (upd H13 cu (.lst [.ref p1, .ref p2, .ref p3])) (.ref p2) (oneC ts.length) := ⟨p2, ws2, rfl, (s13.trans s14) _ _ hp2, Paired.mapP hw2 fun _ _ z => z.mono (s13.trans s14).tups⟩
          have C3 : CutH (upd H13 cu (.lst [.ref p1, .ref p2, .ref p3])) (.ref p3) kss := ⟨p3, ws3, rfl, s14 _ _ hp3, Paired.mapP hw3 fun _ _ z => z.mono s14.tups⟩
          have hCU : Paired (CutH (upd H13 cu (.lst [.ref p1, .ref p2, .ref p3]))) [V.ref p1, V.ref p2, V.ref p3] [tightC ts.length, oneC ts.length, kss] := .cons C1 (.cons C2 (.cons C3 .nil))
          have hCok : ∀ k9 ∈ [tightC ts.length, oneC ts.length, kss], Cut9 k9 ts.length := fun k9 hk => by
            simp only [List.mem_cons, List.not_mem_nil, or_false] at hk
            rcases hk with rfl | rfl | rfl
            · exact cut9_tight ht24
            · exact cut9_one _
            · exact hc3
          have sB : Same H9 (upd H13 cu (.lst [.ref p1, .ref p2, .ref p3])) := s10.trans (s1013.trans s14)
          generalize upd H13 cu (.lst [.ref p1, .ref p2, .ref p3]) = H14 at hcu s14 hPL14 hCU sB
          refine ⟨cu, rfl, ⟨_, SqL.of hcu⟩, for_list (K := K) (a := cu) (xs := [V.ref p1, V.ref p2, V.ref p3]) (fun i σ H2 => ∃ v12 v13 : Option V, σ = [some (.ref a), some (.int n), some (.ref nl), some (.ref x), some (.ref rt), some (.int toll), some (.ref ga), some (.ref L), v6, v7, some (.ref D2), some (.ref PL), v12, v13] ∧ Same H9 H2 ∧ Tups H14 H2 ∧ H2 cu = some (.lst [.ref p1, .ref p2, .ref p3]) ∧ H2 PL = some (.lst ((([tightC ts.length, oneC ts.length, kss].take i).map (totP gG toll)).map V.int)))
            ⟨none, none, rfl, sB, fun _ _ z => z, hcu, hPL14⟩ (fun i σ H2 _ ⟨_, _, _, _, _, h, _⟩ => SqL.of h) ?_ ?_⟩
          · rintro i y σ H2 hy ⟨v12, v13, rfl, s2', T2, hcu2, hPL2⟩
            obtain ⟨k9, hk9, p, wv, rfl, hp, hwv⟩ := Paired.get? hCU hy
            have hc9 := hCok k9 (List.mem_of_getElem? hk9)
            have hi3 : i < 3 := (List.getElem?_eq_some_iff.mp hk9).1
            refine ⟨_, rfl, _, rfl, ga, p, gs, wv, nss, k9, rfl, s2' _ _ hga9, Paired.mapP hNA9 fun _ _ z => z.mono s2'.tups, hnss24, T2 _ _ hp, Paired.mapP hwv fun _ _ z => z.mono T2, by rw [hnl0]; exact hc9, by omega, fun l lv Ha sa hl hlv => ?_⟩
            have s2a := s2'.trans sa
            have hWa : Paired (WAt Ha) lv (k9.map (packN nss)) := Paired.mapP hlv fun _ _ z => z.wat
            have hpk : ∀ p0 ∈ k9.map (packN nss), p0.length ≤ 600 ∧ ∀ n0 ∈ p0, n0 ∈ ps.map (·.1) := fun p0 h0 => by
              obtain ⟨ks, hks, rfl⟩ := List.mem_map.mp h0
              exact hpin ks (hc9.lt ks hks) (by have := cut9_len hc9 ks hks; omega)
            refine ⟨_, rfl, _, rfl, _, rfl, nl, D2, l, nms, us, lv, Ls, k9.map (packN nss), rfl, s2a _ _ hnl9, s2a _ _ hD9, Paired.mapP hW9 fun _ _ z => z.same s2a, hl, hWa, by omega, hLl, by rw [List.length_map]; exact hc9.few, honce k9 hc9, fun Hb sb' => ⟨_, rfl, iteF ?_⟩⟩
            have s2b := s2a.trans sb'
            have hPLb := (sa.trans sb') _ _ hPL2
            refine ⟨_, rfl, .inl ⟨rfl, _, SqL.of hPLb⟩, _, rfl, _, rfl, _, rfl, _, rfl, x, D2, l, ps, us, lv, Ls, k9.map (packN nss), toll, rfl, s2b.partsF hpf9, hfit, s2b _ _ hD9, Paired.mapP hW9 fun _ _ z => z.same s2b, sb' _ _ hl, Paired.mapP hWa fun _ _ z => z.same sb', hpk, fun Hc sc' => ?_⟩
            have hPLc := sc' _ _ hPLb
            refine ⟨PL, _, _, rfl, rfl, hPLc, small1000 (by rw [List.length_map, List.length_map, List.length_take]; omega), ?_⟩
            rw [← hpaid k9 hc9]
            have s2c : Same H9 (upd Hc PL (.lst ((([tightC ts.length, oneC ts.length, kss].take i).map (totP gG toll)).map V.int ++ [V.int (totP gG toll k9)]))) := (s2b.trans sc').put gPL
            have T2c : Tups H14 (upd Hc PL (.lst ((([tightC ts.length, oneC ts.length, kss].take i).map (totP gG toll)).map V.int ++ [V.int (totP gG toll k9)]))) := (T2.trans (sa.trans (sb'.trans sc')).tups).trans (Tups.lst hPLc)
            have hcuc : (upd Hc PL (.lst ((([tightC ts.length, oneC ts.length, kss].take i).map (totP gG toll)).map V.int ++ [V.int (totP gG toll k9)]))) cu = some (.lst [.ref p1, .ref p2, .ref p3]) := by rw [upd_ne hcPL]; exact (sa.trans (sb'.trans sc')) _ _ hcu2
            have hPLd : (upd Hc PL (.lst ((([tightC ts.length, oneC ts.length, kss].take i).map (totP gG toll)).map V.int ++ [V.int (totP gG toll k9)]))) PL = some (.lst ((([tightC ts.length, oneC ts.length, kss].take i).map (totP gG toll)).map V.int ++ [V.int (totP gG toll k9)])) := upd_same
            generalize upd Hc PL (.lst ((([tightC ts.length, oneC ts.length, kss].take i).map (totP gG toll)).map V.int ++ [V.int (totP gG toll k9)])) = Hd at s2c T2c hcuc hPLd ⊢
            refine ⟨_, rfl, _, rfl, _, rfl, ga, p, gs, gG, toll, k9, rfl, s2c _ _ hga9, Paired.mapP hG9 fun _ _ z => z.mono s2c.tups, hGok, ⟨wv, T2c _ _ hp, Paired.mapP hwv fun _ _ z => z.mono T2c, by rw [hGl]; exact hc9.lt, hc9.few⟩, fun He se => ?_⟩
            refine ⟨_, rfl, _, rfl, PL, _, _, _, rfl, rfl, SqL.of (se _ _ hPLd), atI_last _ _, rfl, _, rfl, iteNS rfl ?_⟩
            refine ⟨some (.ref p), some (.ref l), rfl, s2c.trans se, T2c.trans se.tups, se _ _ hcuc, ?_⟩
            rw [se _ _ hPLd, take_succ_get hk9, List.map_append, List.map_append]
            rfl
          · rintro σ H2 ⟨v12, v13, rfl, s2', T2, hcu2, hPL2⟩
            have hPL3 : H2 PL = some (.lst [V.int (totP gG toll (tightC ts.length)), V.int (totP gG toll (oneC ts.length)), V.int (totP gG toll kss)]) := hPL2
            refine ⟨_, rfl, _, rfl, _, rfl, ga, gs, rfl, s2' _ _ hga9, by omega, fun p ws Ha sa hp hws => ?_⟩
            rw [hgsl] at hws
            have s2a := s2'.trans sa
            refine ⟨ga, p, gs, ws, nss, tightC ts.length, rfl, s2a _ _ hga9, Paired.mapP hNA9 fun _ _ z => z.mono s2a.tups, hnss24, hp, hws, by rw [hnl0]; exact cut9_tight ht24, by omega, fun l lv Hb sb' hl hlv => ?_⟩
            have s2b := s2a.trans sb'
            refine ⟨D2, l, us, lv, Ls, (tightC ts.length).map (packN nss), rfl, s2b _ _ hD9, Paired.mapP hW9 fun _ _ z => z.same s2b, hl, Paired.mapP hlv fun _ _ z => z.wat, fun p0 h0 => ?_, hapart, fun Hc sc' => ⟨_, rfl, iteF ?_⟩⟩
            · obtain ⟨ks, hks, rfl⟩ := List.mem_map.mp h0
              have hc9 := cut9_tight ht24
              exact (hpin ks (hc9.lt ks hks) (by have := cut9_len hc9 ks hks; omega)).1
            have hPLc := (sa.trans (sb'.trans sc')) _ _ hPL3
            refine ⟨_, rfl, PL, _, _, _, rfl, rfl, SqL.of hPLc, atI_nat (j := 2) rfl, _, rfl, PL, _, _, _, rfl, rfl, SqL.of hPLc, atI_nat (j := 0) rfl, _, _, rfl, rfl, _, rfl, ?_⟩
            rw [decide_eq_true hle1]
            refine iteT ⟨_, rfl, PL, _, _, _, rfl, rfl, SqL.of hPLc, atI_nat (j := 2) rfl, _, rfl, PL, _, _, _, rfl, rfl, SqL.of hPLc, atI_nat (j := 1) rfl, _, _, rfl, rfl, ?_⟩
            show Q (.bl (decide (totP gG toll kss ≤ totP gG toll (oneC ts.length)))) Hc
            rw [decide_eq_true hle2]
            exact q _
end
end K59
set_option Elab.async false
set_option linter.all false
set_option maxRecDepth 100000
namespace K59
open PySem L2
theorem all_mk {l : PySem.W.OpenLaw} {w : World} {K : PySem.W.Frag} {h : Heap} {mg : Str → Option Value} {fa : Addr} (X : K.In h) (G : h.Ns mainGlobals mg) (hfa : mg "law" = some (.ref fa))
    {f0 : Addr} {od0 an0 : Option Addr} {sl0 : Array (Option Value)} {oc0 kV0 dc0 pm0 cd0 ct0 : Value}
    {f1 : Addr} {od1 an1 : Option Addr} {sl1 : Array (Option Value)} {oc1 kV1 dc1 pm1 cd1 ct1 : Value}
    {f2 : Addr} {od2 an2 : Option Addr} {sl2 : Array (Option Value)} {oc2 kV2 dc2 pm2 cd2 ct2 : Value}
    {f3 : Addr} {od3 an3 : Option Addr} {sl3 : Array (Option Value)} {oc3 kV3 dc3 pm3 cd3 ct3 : Value}
    {f4 : Addr} {od4 an4 : Option Addr} {sl4 : Array (Option Value)} {oc4 kV4 dc4 pm4 cd4 ct4 : Value}
    {f5 : Addr} {od5 an5 : Option Addr} {sl5 : Array (Option Value)} {oc5 kV5 dc5 pm5 cd5 ct5 : Value}
    {f6 : Addr} {od6 an6 : Option Addr} {sl6 : Array (Option Value)} {oc6 kV6 dc6 pm6 cd6 ct6 : Value}
    {f7 : Addr} {od7 an7 : Option Addr} {sl7 : Array (Option Value)} {oc7 kV7 dc7 pm7 cd7 ct7 : Value}
    {f8 : Addr} {od8 an8 : Option Addr} {sl8 : Array (Option Value)} {oc8 kV8 dc8 pm8 cd8 ct8 : Value}
    {f9 : Addr} {od9 an9 : Option Addr} {sl9 : Array (Option Value)} {oc9 kV9 dc9 pm9 cd9 ct9 : Value}
    {f10 : Addr} {od10 an10 : Option Addr} {sl10 : Array (Option Value)} {oc10 kV10 dc10 pm10 cd10 ct10 : Value}
    {f11 : Addr} {od11 an11 : Option Addr} {sl11 : Array (Option Value)} {oc11 kV11 dc11 pm11 cd11 ct11 : Value}
    {f12 : Addr} {od12 an12 : Option Addr} {sl12 : Array (Option Value)} {oc12 kV12 dc12 pm12 cd12 ct12 : Value}
    {f13 : Addr} {od13 an13 : Option Addr} {sl13 : Array (Option Value)} {oc13 kV13 dc13 pm13 cd13 ct13 : Value}
    {f14 : Addr} {od14 an14 : Option Addr} {sl14 : Array (Option Value)} {oc14 kV14 dc14 pm14 cd14 ct14 : Value}
    {f15 : Addr} {od15 an15 : Option Addr} {sl15 : Array (Option Value)} {oc15 kV15 dc15 pm15 cd15 ct15 : Value}
    {f16 : Addr} {od16 an16 : Option Addr} {sl16 : Array (Option Value)} {oc16 kV16 dc16 pm16 cd16 ct16 : Value}
    {f17 : Addr} {od17 an17 : Option Addr} {sl17 : Array (Option Value)} {oc17 kV17 dc17 pm17 cd17 ct17 : Value}
    {f18 : Addr} {od18 an18 : Option Addr} {sl18 : Array (Option Value)} {oc18 kV18 dc18 pm18 cd18 ct18 : Value}
    {f19 : Addr} {od19 an19 : Option Addr} {sl19 : Array (Option Value)} {oc19 kV19 dc19 pm19 cd19 ct19 : Value}
    {f20 : Addr} {od20 an20 : Option Addr} {sl20 : Array (Option Value)} {oc20 kV20 dc20 pm20 cd20 ct20 : Value}
    {f21 : Addr} {od21 an21 : Option Addr} {sl21 : Array (Option Value)} {oc21 kV21 dc21 pm21 cd21 ct21 : Value}
    {f22 : Addr} {od22 an22 : Option Addr} {sl22 : Array (Option Value)} {oc22 kV22 dc22 pm22 cd22 ct22 : Value}
    {f23 : Addr} {od23 an23 : Option Addr} {sl23 : Array (Option Value)} {oc23 kV23 dc23 pm23 cd23 ct23 : Value}
    {f24 : Addr} {od24 an24 : Option Addr} {sl24 : Array (Option Value)} {oc24 kV24 dc24 pm24 cd24 ct24 : Value}
    {f25 : Addr} {od25 an25 : Option Addr} {sl25 : Array (Option Value)} {oc25 kV25 dc25 pm25 cd25 ct25 : Value}
    {f26 : Addr} {od26 an26 : Option Addr} {sl26 : Array (Option Value)} {oc26 kV26 dc26 pm26 cd26 ct26 : Value}
    {f27 : Addr} {od27 an27 : Option Addr} {sl27 : Array (Option Value)} {oc27 kV27 dc27 pm27 cd27 ct27 : Value}
    {f28 : Addr} {od28 an28 : Option Addr} {sl28 : Array (Option Value)} {oc28 kV28 dc28 pm28 cd28 ct28 : Value}
    {f29 : Addr} {od29 an29 : Option Addr} {sl29 : Array (Option Value)} {oc29 kV29 dc29 pm29 cd29 ct29 : Value}
    {f30 : Addr} {od30 an30 : Option Addr} {sl30 : Array (Option Value)} {oc30 kV30 dc30 pm30 cd30 ct30 : Value}
    {f31 : Addr} {od31 an31 : Option Addr} {sl31 : Array (Option Value)} {oc31 kV31 dc31 pm31 cd31 ct31 : Value}
    {tk0 : Tok}
    (a0 : PySem.W.nsIn K mainGlobals "placed_rows" = some (some (.ref f0))) (l0 : K.lookup f0 = some ⟨oc0, od0, .func (PySem.W.fnOf "placed_rows" "placed_rows" (defArgs s_placed_rows) (defBody s_placed_rows) (defScope s_placed_rows) .none kV0 dc0 pm0 an0 cd0 ct0), sl0⟩) (c0 : PySem.W.codeIn K cd0 "placed_rows" = true) (k0 : PySem.W.keepIn K (.ref f0) = true)
    (a1 : PySem.W.nsIn K mainGlobals "brings" = some (some (.ref f1))) (l1 : K.lookup f1 = some ⟨oc1, od1, .func (PySem.W.fnOf "brings" "brings" (defArgs s_brings) (defBody s_brings) (defScope s_brings) .none kV1 dc1 pm1 an1 cd1 ct1), sl1⟩) (c1 : PySem.W.codeIn K cd1 "brings" = true) (k1 : PySem.W.keepIn K (.ref f1) = true)
    (a2 : PySem.W.nsIn K mainGlobals "named_parts" = some (some (.ref f2))) (l2 : K.lookup f2 = some ⟨oc2, od2, .func (PySem.W.fnOf "named_parts" "named_parts" (defArgs s_named_parts) (defBody s_named_parts) (defScope s_named_parts) .none kV2 dc2 pm2 an2 cd2 ct2), sl2⟩) (c2 : PySem.W.codeIn K cd2 "named_parts" = true) (k2 : PySem.W.keepIn K (.ref f2) = true)
    (a3 : PySem.W.nsIn K mainGlobals "order" = some (some (.ref f3))) (l3 : K.lookup f3 = some ⟨oc3, od3, .func (PySem.W.fnOf "order" "order" (defArgs s_order) (defBody s_order) (defScope s_order) .none kV3 dc3 pm3 an3 cd3 ct3), sl3⟩) (c3 : PySem.W.codeIn K cd3 "order" = true) (k3 : PySem.W.keepIn K (.ref f3) = true)
    (a4 : PySem.W.nsIn K mainGlobals "roots" = some (some (.ref f4))) (l4 : K.lookup f4 = some ⟨oc4, od4, .func (PySem.W.fnOf "roots" "roots" (defArgs s_roots) (defBody s_roots) (defScope s_roots) .none kV4 dc4 pm4 an4 cd4 ct4), sl4⟩) (c4 : PySem.W.codeIn K cd4 "roots" = true) (k4 : PySem.W.keepIn K (.ref f4) = true)
    (a5 : PySem.W.nsIn K mainGlobals "colours" = some (some (.ref f5))) (l5 : K.lookup f5 = some ⟨oc5, od5, .func (PySem.W.fnOf "colours" "colours" (defArgs s_colours) (defBody s_colours) (defScope s_colours) .none kV5 dc5 pm5 an5 cd5 ct5), sl5⟩) (c5 : PySem.W.codeIn K cd5 "colours" = true) (k5 : PySem.W.keepIn K (.ref f5) = true)
    (a6 : PySem.W.nsIn K mainGlobals "groups" = some (some (.ref f6))) (l6 : K.lookup f6 = some ⟨oc6, od6, .func (PySem.W.fnOf "groups" "groups" (defArgs s_groups) (defBody s_groups) (defScope s_groups) .none kV6 dc6 pm6 an6 cd6 ct6), sl6⟩) (c6 : PySem.W.codeIn K cd6 "groups" = true) (k6 : PySem.W.keepIn K (.ref f6) = true)
    (a7 : PySem.W.nsIn K mainGlobals "size_of" = some (some (.ref f7))) (l7 : K.lookup f7 = some ⟨oc7, od7, .func (PySem.W.fnOf "size_of" "size_of" (defArgs s_size_of) (defBody s_size_of) (defScope s_size_of) .none kV7 dc7 pm7 an7 cd7 ct7), sl7⟩) (c7 : PySem.W.codeIn K cd7 "size_of" = true) (k7 : PySem.W.keepIn K (.ref f7) = true)
    (a8 : PySem.W.nsIn K mainGlobals "size_of_part" = some (some (.ref f8))) (l8 : K.lookup f8 = some ⟨oc8, od8, .func (PySem.W.fnOf "size_of_part" "size_of_part" (defArgs s_size_of_part) (defBody s_size_of_part) (defScope s_size_of_part) .none kV8 dc8 pm8 an8 cd8 ct8), sl8⟩) (c8 : PySem.W.codeIn K cd8 "size_of_part" = true) (k8 : PySem.W.keepIn K (.ref f8) = true)
    (a9 : PySem.W.nsIn K mainGlobals "price" = some (some (.ref f9))) (l9 : K.lookup f9 = some ⟨oc9, od9, .func (PySem.W.fnOf "price" "price" (defArgs s_price) (defBody s_price) (defScope s_price) .none kV9 dc9 pm9 an9 cd9 ct9), sl9⟩) (c9 : PySem.W.codeIn K cd9 "price" = true) (k9 : PySem.W.keepIn K (.ref f9) = true)
    (a10 : PySem.W.nsIn K mainGlobals "pack_price" = some (some (.ref f10))) (l10 : K.lookup f10 = some ⟨oc10, od10, .func (PySem.W.fnOf "pack_price" "pack_price" (defArgs s_pack_price) (defBody s_pack_price) (defScope s_pack_price) .none kV10 dc10 pm10 an10 cd10 ct10), sl10⟩) (c10 : PySem.W.codeIn K cd10 "pack_price" = true) (k10 : PySem.W.keepIn K (.ref f10) = true)
    (a11 : PySem.W.nsIn K mainGlobals "numbers_in" = some (some (.ref f11))) (l11 : K.lookup f11 = some ⟨oc11, od11, .func (PySem.W.fnOf "numbers_in" "numbers_in" (defArgs s_numbers_in) (defBody s_numbers_in) (defScope s_numbers_in) .none kV11 dc11 pm11 an11 cd11 ct11), sl11⟩) (c11 : PySem.W.codeIn K cd11 "numbers_in" = true) (k11 : PySem.W.keepIn K (.ref f11) = true)
    (a12 : PySem.W.nsIn K mainGlobals "tight" = some (some (.ref f12))) (l12 : K.lookup f12 = some ⟨oc12, od12, .func (PySem.W.fnOf "tight" "tight" (defArgs s_tight) (defBody s_tight) (defScope s_tight) .none kV12 dc12 pm12 an12 cd12 ct12), sl12⟩) (c12 : PySem.W.codeIn K cd12 "tight" = true) (k12 : PySem.W.keepIn K (.ref f12) = true)
    (a13 : PySem.W.nsIn K mainGlobals "single" = some (some (.ref f13))) (l13 : K.lookup f13 = some ⟨oc13, od13, .func (PySem.W.fnOf "single" "single" (defArgs s_single) (defBody s_single) (defScope s_single) .none kV13 dc13 pm13 an13 cd13 ct13), sl13⟩) (c13 : PySem.W.codeIn K cd13 "single" = true) (k13 : PySem.W.keepIn K (.ref f13) = true)
    (a14 : PySem.W.nsIn K mainGlobals "cheapest" = some (some (.ref f14))) (l14 : K.lookup f14 = some ⟨oc14, od14, .func (PySem.W.fnOf "cheapest" "cheapest" (defArgs s_cheapest) (defBody s_cheapest) (defScope s_cheapest) .none kV14 dc14 pm14 an14 cd14 ct14), sl14⟩) (c14 : PySem.W.codeIn K cd14 "cheapest" = true) (k14 : PySem.W.keepIn K (.ref f14) = true)
    (a15 : PySem.W.nsIn K mainGlobals "best_packs" = some (some (.ref f15))) (l15 : K.lookup f15 = some ⟨oc15, od15, .func (PySem.W.fnOf "best_packs" "best_packs" (defArgs s_best_packs) (defBody s_best_packs) (defScope s_best_packs) .none kV15 dc15 pm15 an15 cd15 ct15), sl15⟩) (c15 : PySem.W.codeIn K cd15 "best_packs" = true) (k15 : PySem.W.keepIn K (.ref f15) = true)
    (a16 : PySem.W.nsIn K mainGlobals "first_packs" = some (some (.ref f16))) (l16 : K.lookup f16 = some ⟨oc16, od16, .func (PySem.W.fnOf "first_packs" "first_packs" (defArgs s_first_packs) (defBody s_first_packs) (defScope s_first_packs) .none kV16 dc16 pm16 an16 cd16 ct16), sl16⟩) (c16 : PySem.W.codeIn K cd16 "first_packs" = true) (k16 : PySem.W.keepIn K (.ref f16) = true)
    (a17 : PySem.W.nsIn K mainGlobals "least_cut" = some (some (.ref f17))) (l17 : K.lookup f17 = some ⟨oc17, od17, .func (PySem.W.fnOf "least_cut" "least_cut" (defArgs s_least_cut) (defBody s_least_cut) (defScope s_least_cut) .none kV17 dc17 pm17 an17 cd17 ct17), sl17⟩) (c17 : PySem.W.codeIn K cd17 "least_cut" = true) (k17 : PySem.W.keepIn K (.ref f17) = true)
    (a18 : PySem.W.nsIn K mainGlobals "_law_cell_at" = some (some (.ref f18))) (l18 : K.lookup f18 = some ⟨oc18, od18, .func (PySem.W.fnOf "_law_cell_at" "_law_cell_at" (defArgs s_law_cell_at) (defBody s_law_cell_at) (defScope s_law_cell_at) .none kV18 dc18 pm18 an18 cd18 ct18), sl18⟩) (c18 : PySem.W.codeIn K cd18 "_law_cell_at" = true) (k18 : PySem.W.keepIn K (.ref f18) = true)
    (a19 : PySem.W.nsIn K mainGlobals "_law_mixed" = some (some (.ref f19))) (l19 : K.lookup f19 = some ⟨oc19, od19, .func (PySem.W.fnOf "_law_mixed" "_law_mixed" (defArgs s_law_mixed) (defBody s_law_mixed) (defScope s_law_mixed) .none kV19 dc19 pm19 an19 cd19 ct19), sl19⟩) (c19 : PySem.W.codeIn K cd19 "_law_mixed" = true) (k19 : PySem.W.keepIn K (.ref f19) = true)
    (a20 : PySem.W.nsIn K mainGlobals "_law_names" = some (some (.ref f20))) (l20 : K.lookup f20 = some ⟨oc20, od20, .func (PySem.W.fnOf "_law_names" "_law_names" (defArgs s_law_names) (defBody s_law_names) (defScope s_law_names) .none kV20 dc20 pm20 an20 cd20 ct20), sl20⟩) (c20 : PySem.W.codeIn K cd20 "_law_names" = true) (k20 : PySem.W.keepIn K (.ref f20) = true)
    (a21 : PySem.W.nsIn K mainGlobals "_law_other" = some (some (.ref f21))) (l21 : K.lookup f21 = some ⟨oc21, od21, .func (PySem.W.fnOf "_law_other" "_law_other" (defArgs s_law_other) (defBody s_law_other) (defScope s_law_other) .none kV21 dc21 pm21 an21 cd21 ct21), sl21⟩) (c21 : PySem.W.codeIn K cd21 "_law_other" = true) (k21 : PySem.W.keepIn K (.ref f21) = true)
    (a22 : PySem.W.nsIn K mainGlobals "_law_row" = some (some (.ref f22))) (l22 : K.lookup f22 = some ⟨oc22, od22, .func (PySem.W.fnOf "_law_row" "_law_row" (defArgs s_law_row) (defBody s_law_row) (defScope s_law_row) .none kV22 dc22 pm22 an22 cd22 ct22), sl22⟩) (c22 : PySem.W.codeIn K cd22 "_law_row" = true) (k22 : PySem.W.keepIn K (.ref f22) = true)
    (a23 : PySem.W.nsIn K mainGlobals "_law_parts" = some (some (.ref f23))) (l23 : K.lookup f23 = some ⟨oc23, od23, .func (PySem.W.fnOf "_law_parts" "_law_parts" (defArgs s_law_parts) (defBody s_law_parts) (defScope s_law_parts) .none kV23 dc23 pm23 an23 cd23 ct23), sl23⟩) (c23 : PySem.W.codeIn K cd23 "_law_parts" = true) (k23 : PySem.W.keepIn K (.ref f23) = true)
    (a24 : PySem.W.nsIn K mainGlobals "_law_some" = some (some (.ref f24))) (l24 : K.lookup f24 = some ⟨oc24, od24, .func (PySem.W.fnOf "_law_some" "_law_some" (defArgs s_law_some) (defBody s_law_some) (defScope s_law_some) .none kV24 dc24 pm24 an24 cd24 ct24), sl24⟩) (c24 : PySem.W.codeIn K cd24 "_law_some" = true) (k24 : PySem.W.keepIn K (.ref f24) = true)
    (a25 : PySem.W.nsIn K mainGlobals "_law_come" = some (some (.ref f25))) (l25 : K.lookup f25 = some ⟨oc25, od25, .func (PySem.W.fnOf "_law_come" "_law_come" (defArgs s_law_come) (defBody s_law_come) (defScope s_law_come) .none kV25 dc25 pm25 an25 cd25 ct25), sl25⟩) (c25 : PySem.W.codeIn K cd25 "_law_come" = true) (k25 : PySem.W.keepIn K (.ref f25) = true)
    (a26 : PySem.W.nsIn K mainGlobals "_law_toll" = some (some (.ref f26))) (l26 : K.lookup f26 = some ⟨oc26, od26, .func (PySem.W.fnOf "_law_toll" "_law_toll" (defArgs s_law_toll) (defBody s_law_toll) (defScope s_law_toll) .none kV26 dc26 pm26 an26 cd26 ct26), sl26⟩) (c26 : PySem.W.codeIn K cd26 "_law_toll" = true) (k26 : PySem.W.keepIn K (.ref f26) = true)
    (a27 : PySem.W.nsIn K mainGlobals "_law_packs" = some (some (.ref f27))) (l27 : K.lookup f27 = some ⟨oc27, od27, .func (PySem.W.fnOf "_law_packs" "_law_packs" (defArgs s_law_packs) (defBody s_law_packs) (defScope s_law_packs) .none kV27 dc27 pm27 an27 cd27 ct27), sl27⟩) (c27 : PySem.W.codeIn K cd27 "_law_packs" = true) (k27 : PySem.W.keepIn K (.ref f27) = true)
    (a28 : PySem.W.nsIn K mainGlobals "_law_paid" = some (some (.ref f28))) (l28 : K.lookup f28 = some ⟨oc28, od28, .func (PySem.W.fnOf "_law_paid" "_law_paid" (defArgs s_law_paid) (defBody s_law_paid) (defScope s_law_paid) .none kV28 dc28 pm28 an28 cd28 ct28), sl28⟩) (c28 : PySem.W.codeIn K cd28 "_law_paid" = true) (k28 : PySem.W.keepIn K (.ref f28) = true)
    (a29 : PySem.W.nsIn K mainGlobals "_law_each_once" = some (some (.ref f29))) (l29 : K.lookup f29 = some ⟨oc29, od29, .func (PySem.W.fnOf "_law_each_once" "_law_each_once" (defArgs s_law_each_once) (defBody s_law_each_once) (defScope s_law_each_once) .none kV29 dc29 pm29 an29 cd29 ct29), sl29⟩) (c29 : PySem.W.codeIn K cd29 "_law_each_once" = true) (k29 : PySem.W.keepIn K (.ref f29) = true)
    (a30 : PySem.W.nsIn K mainGlobals "_law_apart" = some (some (.ref f30))) (l30 : K.lookup f30 = some ⟨oc30, od30, .func (PySem.W.fnOf "_law_apart" "_law_apart" (defArgs s_law_apart) (defBody s_law_apart) (defScope s_law_apart) .none kV30 dc30 pm30 an30 cd30 ct30), sl30⟩) (c30 : PySem.W.codeIn K cd30 "_law_apart" = true) (k30 : PySem.W.keepIn K (.ref f30) = true)
    (a31 : PySem.W.nsIn K mainGlobals "law" = some (some (.ref f31))) (l31 : K.lookup f31 = some ⟨oc31, od31, .func (PySem.W.fnOf "law" "law" (defArgs s_law) (defBody s_law) (defScope s_law) .none kV31 dc31 pm31 an31 cd31 ct31), sl31⟩) (c31 : PySem.W.codeIn K cd31 "law" = true) (k31 : PySem.W.keepIn K (.ref f31) = true)
    (z0 : PySem.W.nsIn K mainGlobals "len" = some none)
    (z1 : PySem.W.nsIn K mainGlobals "range" = some none)
    (z2 : PySem.W.nsIn K mainGlobals "str" = some none)
    (z3 : PySem.W.nsIn K mainGlobals "tuple" = some none)
    (z4 : PySem.W.nsIn K mainGlobals "dict" = some none)
    (z5 : PySem.W.nsIn K mainGlobals "list" = some none)
    (z6 : PySem.W.nsIn K mainGlobals "reversed" = some none)
    (z7 : PySem.W.nsIn K mainGlobals "int" = some none)
    (z8 : PySem.W.nsIn K mainGlobals "min" = some none)
    (z9 : PySem.W.nsIn K mainGlobals "zip" = some none)
    (z10 : PySem.W.nsIn K mainGlobals "enumerate" = some none)
    (z11 : PySem.W.nsIn K mainGlobals "sum" = some none)
    (gc0 : PySem.W.nsIn K mainGlobals "MOST_GROUPS" = some (some (.int 8 tk0))) :
    ∃ fd : FuncData, (∀ (s : Shared) (v : Value), BindsTo s fd ⟨[v], []⟩ [("_law_script", v)]) ∧ ∀ base : Heap, K.In base → base.Ns mainGlobals mg → FnOk l.prog w K mg base CX0 7 fa fd ["_law_script"] (spLaw K) := by
  have e := hfa.symm.trans (PySem.W.mg_of X G a31)
  cases e
  have T : Txt K mg := ⟨PySem.W.mg_none_of X G z0, PySem.W.mg_none_of X G z1, PySem.W.mg_none_of X G z2, PySem.W.mg_none_of X G z3, PySem.W.mg_none_of X G z4, PySem.W.mg_none_of X G z5, PySem.W.mg_none_of X G z6, PySem.W.mg_none_of X G z7, PySem.W.mg_none_of X G z8, PySem.W.mg_none_of X G z9, PySem.W.mg_none_of X G z10, PySem.W.mg_none_of X G z11, ⟨_, PySem.W.mg_of X G gc0, ⟨_, rfl⟩⟩, hasDef_mk X G a0 l0 c0 k0, hasDef_mk X G a1 l1 c1 k1, hasDef_mk X G a2 l2 c2 k2, hasDef_mk X G a3 l3 c3 k3, hasDef_mk X G a4 l4 c4 k4, hasDef_mk X G a5 l5 c5 k5, hasDef_mk X G a6 l6 c6 k6, hasDef_mk X G a7 l7 c7 k7, hasDef_mk X G a8 l8 c8 k8, hasDef_mk X G a9 l9 c9 k9, hasDef_mk X G a10 l10 c10 k10, hasDef_mk X G a11 l11 c11 k11, hasDef_mk X G a12 l12 c12 k12, hasDef_mk X G a13 l13 c13 k13, hasDef_mk X G a14 l14 c14 k14, hasDef_mk X G a15 l15 c15 k15, hasDef_mk X G a16 l16 c16 k16, hasDef_mk X G a17 l17 c17 k17, hasDef_mk X G a18 l18 c18 k18, hasDef_mk X G a19 l19 c19 k19, hasDef_mk X G a20 l20 c20 k20, hasDef_mk X G a21 l21 c21 k21, hasDef_mk X G a22 l22 c22 k22, hasDef_mk X G a23 l23 c23 k23, hasDef_mk X G a24 l24 c24 k24, hasDef_mk X G a25 l25 c25 k25, hasDef_mk X G a26 l26 c26 k26, hasDef_mk X G a27 l27 c27 k27, hasDef_mk X G a28 l28 c28 k28, hasDef_mk X G a29 l29 c29 k29, hasDef_mk X G a30 l30 c30 k30⟩
  exact ⟨_, fun s v => .of_eq rfl, fun base _ _ => law_fn (fun_mk (st := s_law) l31 c31 k31) T⟩
theorem walk {l : PySem.W.OpenLaw} {q : Program} {loose : List Str} {XP : (Str → Option Value) → Heap → Prop} {YP : World → Heap → Prop} {d : DefRec} {K : Params → PySem.W.Frag} (hn : l.most = some 63) (hdf : d.params.defaults = [])
    (hY : ∀ (w : World) (h : Heap), YP w h → (K w.params).In h)
    (F : ∀ (w : World) (mg : Str → Option Value) (fa : Addr) (h : Heap), (K w.params).In h → h.Ns mainGlobals mg → mg d.name = some (.ref fa) →
      ∃ fd : FuncData, (∀ (s : Shared) (u : Value), BindsTo s fd ⟨[u], []⟩ [("_law_script", u)]) ∧ ∀ base : Heap, (K w.params).In base → base.Ns mainGlobals mg → FnOk l.prog w (K w.params) mg base CX0 7 fa fd ["_law_script"] (spLaw (K w.params))) :
    PySem.W.WalkO q loose XP YP l.row.toRowW d [] (fun f vs => PySem.call f vs) :=
  L2.walk_of (n := 63) (k := 7) (x := "_law_script") (CX := fun _ => CX0) (sp := fun w => spLaw (K w.params)) hn (by decide) hdf ⟨rfl, by decide, by decide⟩ hY F (fun _ _ a ns hl _ hS => ⟨a, ns, rfl, hS, hl, fun _ => rfl⟩) fun _ _ _ _ _ z => z
end K59
namespace K59
open PySem PySem.W L2
set_option maxHeartbeats 0
noncomputable def heapK (P : Params) : PySem.W.Frag :=
  (nat_lit 2, { cls := Value.none, data := Data.dict #[] }) ::
  (nat_lit 3, { cls := Value.type "dict", data := Data.dict #[HD.en P "__name__" 165 (Value.str ("law_bundlehouse_k59_whole_prices_are_loads") 388), HD.en P "__doc__" 166 (Value.none), HD.en P "__package__" 167 (Value.none), HD.en P "__loader__" 168 (Value.builtin "__main__.__loader__#opaque"), HD.en P "__spec__" 169 (Value.none), HD.en P "__annotations__" 170 (Value.ref 6), HD.en P "__builtins__" 171 (Value.ref 4), HD.en P "__file__" 173 (Value.str ("/claim/cut.py") 172), HD.en P "__cached__" 174 (Value.none), HD.en P "BundleError" 206 (Value.ref 24), HD.en P "TooMany" 231 (Value.ref 44), HD.en P "MOST_GROUPS" 235 (Value.int 8 234), HD.en P "price" 241 (Value.ref 51), HD.en P "pack_price" 253 (Value.ref 58), HD.en P "numbers_in" 259 (Value.ref 63), HD.en P "tight" 265 (Value.ref 68), HD.en P "single" 272 (Value.ref 75), HD.en P "cheapest" 282 (Value.ref 82), HD.en P "best_packs" 288 (Value.ref 87), HD.en P "first_packs" 294 (Value.ref 92), HD.en P "least_cut" 304 (Value.ref 99), HD.en P "placed_rows" 318 (Value.ref 106), HD.en P "brings" 326 (Value.ref 113), HD.en P "named_parts" 337 (Value.ref 120), HD.en P "order" 348 (Value.ref 127), HD.en P "roots" 356 (Value.ref 132), HD.en P "colours" 369 (Value.ref 139), HD.en P "groups" 375 (Value.ref 144), HD.en P "size_of" 381 (Value.ref 149), HD.en P "size_of_part" 387 (Value.ref 154), HD.en P "_law_cell_at" 397 (Value.ref 161), HD.en P "_law_mixed" 406 (Value.ref 168), HD.en P "_law_names" 412 (Value.ref 173), HD.en P "_law_other" 422 (Value.ref 180), HD.en P "_law_row" 435 (Value.ref 187), HD.en P "_law_parts" 441 (Value.ref 192), HD.en P "_law_some" 453 (Value.ref 199), HD.en P "_law_come" 465 (Value.ref 206), HD.en P "_law_toll" 472 (Value.ref 213), HD.en P "_law_packs" 484 (Value.ref 220), HD.en P "_law_paid" 490 (Value.ref 225), HD.en P "_law_each_once" 496 (Value.ref 230), HD.en P "_law_apart" 502 (Value.ref 235), HD.en P "law" 508 (Value.ref 240)] 44 }) ::
  (nat_lit 15, { cls := Value.type "tuple", data := Data.seq #[Value.type "ValueError"] }) ::
  (nat_lit 22, { cls := Value.type "tuple", data := Data.seq #[] }) ::
  (nat_lit 23, { cls := Value.type "dict", data := Data.dict #[HD.en P "__module__" 196 (Value.str ("bundlehouse.errors") 187), HD.en P "__firstlineno__" 200 (Value.int 2 199), HD.en P "__static_attributes__" 201 (Value.ref 22), HD.en P "__weakref__" 203 (Value.ref 25), HD.en P "__doc__" 204 (Value.none)] 3 }) ::
  (nat_lit 24, { cls := Value.type "type", data := Data.cls { name := "BundleError", bases := [Value.type "ValueError"], mro := [Value.ref 24, Value.type "ValueError", Value.type "Exception", Value.type "BaseException", Value.type "object"], ns := 23, qualname := "BundleError", subclasses := [Value.ref 44] }, slots := #[some (Value.ref 15), none, some (Value.str ("BundleError") 189), some (Value.str ("BundleError") 197), some (Value.builtin "ValueError.__new__"), some (Value.bool true)] }) ::
  (nat_lit 25, { cls := Value.type "getset_descriptor", data := Data.fields #[Value.str ("__weakref__") 202, Value.ref 24, Value.builtin "ExceptionGroup.__weakref__", Value.none] }) ::
  (nat_lit 28, { cls := Value.type "tuple", data := Data.seq #[Value.ref 24] }) ::
  (nat_lit 35, { cls := Value.type "tuple", data := Data.seq #[] }) ::
  (nat_lit 37, { cls := Value.type "tuple", data := Data.seq #[Value.str ("self") 222, Value.str ("parts") 223] }) ::
  (nat_lit 38, { cls := Value.type "tuple", data := Data.seq #[] }) ::
  (nat_lit 40, { cls := Value.type "code", data := Data.fields #[Value.str ("__init__") 219, Value.str ("TooMany.__init__") 220, Value.str ("/claim/cut.py") 221, Value.int 6 0, Value.int 2 0, Value.int 0 0, Value.int 0 0, Value.int 3 0, Value.ref 35, Value.bool true, Value.int 181 0, Value.ref 36, Value.none, Value.ref 37, Value.ref 38, Value.ref 39, Value.int 224 0, Value.int 6 0, Value.str ("/claim/cut.py") 225] }) ::
  (nat_lit 42, { cls := Value.type "tuple", data := Data.seq #[Value.str ("parts") 227] }) ::
  (nat_lit 43, { cls := Value.type "dict", data := Data.dict #[HD.en P "__module__" 214 (Value.str ("bundlehouse.errors") 187), HD.en P "__firstlineno__" 218 (Value.int 4 217), HD.en P "__init__" 226 (Value.ref 41), HD.en P "__static_attributes__" 228 (Value.ref 42), HD.en P "__doc__" 229 (Value.none)] 2 }) ::
  (nat_lit 44, { cls := Value.type "type", data := Data.cls { name := "TooMany", bases := [Value.ref 24], mro := [Value.ref 44, Value.ref 24, Value.type "ValueError", Value.type "Exception", Value.type "BaseException", Value.type "object"], ns := 43, qualname := "TooMany" }, slots := #[some (Value.ref 28), none, some (Value.str ("TooMany") 207), some (Value.str ("TooMany") 215), some (Value.builtin "ValueError.__new__"), some (Value.bool true)] }) ::
  (nat_lit 47, { cls := Value.type "tuple", data := Data.seq #[] }) ::
  (nat_lit 50, { cls := Value.type "code", data := Data.fields #[Value.str ("price") 236, Value.str ("price") 237, Value.str ("/claim/cut.py") 238, Value.int 11 0, Value.int 3 0, Value.int 0 0, Value.int 0 0, Value.int 3 0, Value.ref 47, Value.bool true, Value.int 181 0, Value.ref 48, Value.none, Value.none, Value.none, Value.ref 49, Value.int 239 0, Value.int 11 0, Value.str ("/claim/cut.py") 240] }) ::
  (nat_lit 51, ⟨Value.type "function", none, .func (PySem.W.fnOf "price" "price" (defArgs s_price) (defBody s_price) (defScope s_price) (Value.none) (Value.none) (Value.none) (Value.str ("bundlehouse.cuts") 232) (none) (Value.ref 50) (Value.none)), #[]⟩) ::
  (nat_lit 52, { cls := Value.type "tuple", data := Data.seq #[] }) ::
  (nat_lit 54, { cls := Value.type "tuple", data := Data.seq #[Value.str ("groups") 245, Value.str ("toll") 246, Value.str ("pack") 247, Value.str ("colour") 248, Value.str ("rows") 249, Value.str ("number") 250] }) ::
  (nat_lit 55, { cls := Value.type "tuple", data := Data.seq #[] }) ::
  (nat_lit 57, { cls := Value.type "code", data := Data.fields #[Value.str ("pack_price") 242, Value.str ("pack_price") 243, Value.str ("/claim/cut.py") 244, Value.int 13 0, Value.int 3 0, Value.int 0 0, Value.int 0 0, Value.int 3 0, Value.ref 52, Value.bool true, Value.int 181 0, Value.ref 53, Value.none, Value.ref 54, Value.ref 55, Value.ref 56, Value.int 251 0, Value.int 13 0, Value.str ("/claim/cut.py") 252] }) ::
  (nat_lit 58, ⟨Value.type "function", none, .func (PySem.W.fnOf "pack_price" "pack_price" (defArgs s_pack_price) (defBody s_pack_price) (defScope s_pack_price) (Value.none) (Value.none) (Value.none) (Value.str ("bundlehouse.cuts") 232) (none) (Value.ref 57) (Value.none)), #[]⟩) ::
  (nat_lit 59, { cls := Value.type "tuple", data := Data.seq #[] }) ::
  (nat_lit 62, { cls := Value.type "code", data := Data.fields #[Value.str ("numbers_in") 254, Value.str ("numbers_in") 255, Value.str ("/claim/cut.py") 256, Value.int 20 0, Value.int 1 0, Value.int 0 0, Value.int 0 0, Value.int 3 0, Value.ref 59, Value.bool true, Value.int 181 0, Value.ref 60, Value.none, Value.none, Value.none, Value.ref 61, Value.int 257 0, Value.int 20 0, Value.str ("/claim/cut.py") 258] }) ::
  (nat_lit 63, ⟨Value.type "function", none, .func (PySem.W.fnOf "numbers_in" "numbers_in" (defArgs s_numbers_in) (defBody s_numbers_in) (defScope s_numbers_in) (Value.none) (Value.none) (Value.none) (Value.str ("bundlehouse.cuts") 232) (none) (Value.ref 62) (Value.none)), #[]⟩) ::
  (nat_lit 64, { cls := Value.type "tuple", data := Data.seq #[] }) ::
  (nat_lit 67, { cls := Value.type "code", data := Data.fields #[Value.str ("tight") 260, Value.str ("tight") 261, Value.str ("/claim/cut.py") 262, Value.int 22 0, Value.int 1 0, Value.int 0 0, Value.int 0 0, Value.int 3 0, Value.ref 64, Value.bool true, Value.int 181 0, Value.ref 65, Value.none, Value.none, Value.none, Value.ref 66, Value.int 263 0, Value.int 22 0, Value.str ("/claim/cut.py") 264] }) ::
  (nat_lit 68, ⟨Value.type "function", none, .func (PySem.W.fnOf "tight" "tight" (defArgs s_tight) (defBody s_tight) (defScope s_tight) (Value.none) (Value.none) (Value.none) (Value.str ("bundlehouse.cuts") 232) (none) (Value.ref 67) (Value.none)), #[]⟩) ::
  (nat_lit 69, { cls := Value.type "tuple", data := Data.seq #[] }) ::
  (nat_lit 71, { cls := Value.type "tuple", data := Data.seq #[Value.str ("groups") 269] }) ::
  (nat_lit 72, { cls := Value.type "tuple", data := Data.seq #[] }) ::
  (nat_lit 74, { cls := Value.type "code", data := Data.fields #[Value.str ("single") 266, Value.str ("single") 267, Value.str ("/claim/cut.py") 268, Value.int 24 0, Value.int 1 0, Value.int 0 0, Value.int 0 0, Value.int 3 0, Value.ref 69, Value.bool true, Value.int 181 0, Value.ref 70, Value.none, Value.ref 71, Value.ref 72, Value.ref 73, Value.int 270 0, Value.int 24 0, Value.str ("/claim/cut.py") 271] }) ::
  (nat_lit 75, ⟨Value.type "function", none, .func (PySem.W.fnOf "single" "single" (defArgs s_single) (defBody s_single) (defScope s_single) (Value.none) (Value.none) (Value.none) (Value.str ("bundlehouse.cuts") 232) (none) (Value.ref 74) (Value.none)), #[]⟩) ::
  (nat_lit 76, { cls := Value.type "tuple", data := Data.seq #[] }) ::
  (nat_lit 78, { cls := Value.type "tuple", data := Data.seq #[Value.str ("groups") 276, Value.str ("toll") 277, Value.str ("apart") 278, Value.str ("together") 279] }) ::
  (nat_lit 79, { cls := Value.type "tuple", data := Data.seq #[] }) ::
  (nat_lit 81, { cls := Value.type "code", data := Data.fields #[Value.str ("cheapest") 273, Value.str ("cheapest") 274, Value.str ("/claim/cut.py") 275, Value.int 28 0, Value.int 2 0, Value.int 0 0, Value.int 0 0, Value.int 3 0, Value.ref 76, Value.bool true, Value.int 181 0, Value.ref 77, Value.none, Value.ref 78, Value.ref 79, Value.ref 80, Value.int 280 0, Value.int 28 0, Value.str ("/claim/cut.py") 281] }) ::
  (nat_lit 82, ⟨Value.type "function", none, .func (PySem.W.fnOf "cheapest" "cheapest" (defArgs s_cheapest) (defBody s_cheapest) (defScope s_cheapest) (Value.none) (Value.none) (Value.none) (Value.str ("bundlehouse.cuts") 232) (none) (Value.ref 81) (Value.none)), #[]⟩) ::
  (nat_lit 83, { cls := Value.type "tuple", data := Data.seq #[] }) ::
  (nat_lit 86, { cls := Value.type "code", data := Data.fields #[Value.str ("best_packs") 283, Value.str ("best_packs") 284, Value.str ("/claim/cut.py") 285, Value.int 36 0, Value.int 2 0, Value.int 0 0, Value.int 0 0, Value.int 3 0, Value.ref 83, Value.bool true, Value.int 181 0, Value.ref 84, Value.none, Value.none, Value.none, Value.ref 85, Value.int 286 0, Value.int 36 0, Value.str ("/claim/cut.py") 287] }) ::
  (nat_lit 87, ⟨Value.type "function", none, .func (PySem.W.fnOf "best_packs" "best_packs" (defArgs s_best_packs) (defBody s_best_packs) (defScope s_best_packs) (Value.none) (Value.none) (Value.none) (Value.str ("bundlehouse.cuts") 232) (none) (Value.ref 86) (Value.none)), #[]⟩) ::
  (nat_lit 88, { cls := Value.type "tuple", data := Data.seq #[] }) ::
  (nat_lit 91, { cls := Value.type "code", data := Data.fields #[Value.str ("first_packs") 289, Value.str ("first_packs") 290, Value.str ("/claim/cut.py") 291, Value.int 44 0, Value.int 1 0, Value.int 0 0, Value.int 0 0, Value.int 3 0, Value.ref 88, Value.bool true, Value.int 181 0, Value.ref 89, Value.none, Value.none, Value.none, Value.ref 90, Value.int 292 0, Value.int 44 0, Value.str ("/claim/cut.py") 293] }) ::
  (nat_lit 92, ⟨Value.type "function", none, .func (PySem.W.fnOf "first_packs" "first_packs" (defArgs s_first_packs) (defBody s_first_packs) (defScope s_first_packs) (Value.none) (Value.none) (Value.none) (Value.str ("bundlehouse.cuts") 232) (none) (Value.ref 91) (Value.none)), #[]⟩) ::
  (nat_lit 93, { cls := Value.type "tuple", data := Data.seq #[] }) ::
  (nat_lit 95, { cls := Value.type "tuple", data := Data.seq #[Value.str ("best") 298, Value.str ("cut") 299, Value.str ("left") 300, Value.str ("pack") 301] }) ::
  (nat_lit 96, { cls := Value.type "tuple", data := Data.seq #[] }) ::
  (nat_lit 98, { cls := Value.type "code", data := Data.fields #[Value.str ("least_cut") 295, Value.str ("least_cut") 296, Value.str ("/claim/cut.py") 297, Value.int 47 0, Value.int 1 0, Value.int 0 0, Value.int 0 0, Value.int 3 0, Value.ref 93, Value.bool true, Value.int 181 0, Value.ref 94, Value.none, Value.ref 95, Value.ref 96, Value.ref 97, Value.int 302 0, Value.int 47 0, Value.str ("/claim/cut.py") 303] }) ::
  (nat_lit 99, ⟨Value.type "function", none, .func (PySem.W.fnOf "least_cut" "least_cut" (defArgs s_least_cut) (defBody s_least_cut) (defScope s_least_cut) (Value.none) (Value.none) (Value.none) (Value.str ("bundlehouse.cuts") 232) (none) (Value.ref 98) (Value.none)), #[]⟩) ::
  (nat_lit 100, { cls := Value.type "tuple", data := Data.seq #[] }) ::
  (nat_lit 102, { cls := Value.type "tuple", data := Data.seq #[Value.str ("parts") 310, Value.str ("found") 311, Value.str ("part") 312, Value.str ("rows") 313, Value.str ("number") 314, Value.str ("row") 315] }) ::
  (nat_lit 103, { cls := Value.type "tuple", data := Data.seq #[] }) ::
  (nat_lit 105, { cls := Value.type "code", data := Data.fields #[Value.str ("placed_rows") 307, Value.str ("placed_rows") 308, Value.str ("/claim/cut.py") 309, Value.int 56 0, Value.int 1 0, Value.int 0 0, Value.int 0 0, Value.int 3 0, Value.ref 100, Value.bool true, Value.int 181 0, Value.ref 101, Value.none, Value.ref 102, Value.ref 103, Value.ref 104, Value.int 316 0, Value.int 56 0, Value.str ("/claim/cut.py") 317] }) ::
  (nat_lit 106, ⟨Value.type "function", none, .func (PySem.W.fnOf "placed_rows" "placed_rows" (defArgs s_placed_rows) (defBody s_placed_rows) (defScope s_placed_rows) (Value.none) (Value.none) (Value.none) (Value.str ("bundlehouse.net") 305) (none) (Value.ref 105) (Value.none)), #[]⟩) ::
  (nat_lit 107, { cls := Value.type "tuple", data := Data.seq #[] }) ::
  (nat_lit 109, { cls := Value.type "tuple", data := Data.seq #[Value.str ("parts") 322, Value.str ("part") 323] }) ::
  (nat_lit 110, { cls := Value.type "tuple", data := Data.seq #[] }) ::
  (nat_lit 112, { cls := Value.type "code", data := Data.fields #[Value.str ("brings") 319, Value.str ("brings") 320, Value.str ("/claim/cut.py") 321, Value.int 62 0, Value.int 2 0, Value.int 0 0, Value.int 0 0, Value.int 3 0, Value.ref 107, Value.bool true, Value.int 181 0, Value.ref 108, Value.none, Value.ref 109, Value.ref 110, Value.ref 111, Value.int 324 0, Value.int 62 0, Value.str ("/claim/cut.py") 325] }) ::
  (nat_lit 113, ⟨Value.type "function", none, .func (PySem.W.fnOf "brings" "brings" (defArgs s_brings) (defBody s_brings) (defScope s_brings) (Value.none) (Value.none) (Value.none) (Value.str ("bundlehouse.net") 305) (none) (Value.ref 112) (Value.none)), #[]⟩) ::
  (nat_lit 114, { cls := Value.type "tuple", data := Data.seq #[] }) ::
  (nat_lit 116, { cls := Value.type "tuple", data := Data.seq #[Value.str ("parts") 330, Value.str ("part") 331, Value.str ("kind") 332, Value.str ("found") 333, Value.str ("row") 334] }) ::
  (nat_lit 117, { cls := Value.type "tuple", data := Data.seq #[] }) ::
  (nat_lit 119, { cls := Value.type "code", data := Data.fields #[Value.str ("named_parts") 327, Value.str ("named_parts") 328, Value.str ("/claim/cut.py") 329, Value.int 64 0, Value.int 3 0, Value.int 0 0, Value.int 0 0, Value.int 3 0, Value.ref 114, Value.bool true, Value.int 181 0, Value.ref 115, Value.none, Value.ref 116, Value.ref 117, Value.ref 118, Value.int 335 0, Value.int 64 0, Value.str ("/claim/cut.py") 336] }) ::
  (nat_lit 120, ⟨Value.type "function", none, .func (PySem.W.fnOf "named_parts" "named_parts" (defArgs s_named_parts) (defBody s_named_parts) (defScope s_named_parts) (Value.none) (Value.none) (Value.none) (Value.str ("bundlehouse.net") 305) (none) (Value.ref 119) (Value.none)), #[]⟩) ::
  (nat_lit 121, { cls := Value.type "tuple", data := Data.seq #[] }) ::
  (nat_lit 123, { cls := Value.type "tuple", data := Data.seq #[Value.str ("parts") 341, Value.str ("root") 342, Value.str ("begun") 343, Value.str ("waiting") 344, Value.str ("part") 345] }) ::
  (nat_lit 124, { cls := Value.type "tuple", data := Data.seq #[] }) ::
  (nat_lit 126, { cls := Value.type "code", data := Data.fields #[Value.str ("order") 338, Value.str ("order") 339, Value.str ("/claim/cut.py") 340, Value.int 70 0, Value.int 2 0, Value.int 0 0, Value.int 0 0, Value.int 3 0, Value.ref 121, Value.bool true, Value.int 181 0, Value.ref 122, Value.none, Value.ref 123, Value.ref 124, Value.ref 125, Value.int 346 0, Value.int 70 0, Value.str ("/claim/cut.py") 347] }) ::
  (nat_lit 127, ⟨Value.type "function", none, .func (PySem.W.fnOf "order" "order" (defArgs s_order) (defBody s_order) (defScope s_order) (Value.none) (Value.none) (Value.none) (Value.str ("bundlehouse.net") 305) (none) (Value.ref 126) (Value.none)), #[]⟩) ::
  (nat_lit 128, { cls := Value.type "tuple", data := Data.seq #[] }) ::
  (nat_lit 131, { cls := Value.type "code", data := Data.fields #[Value.str ("roots") 351, Value.str ("roots") 352, Value.str ("/claim/cut.py") 353, Value.int 80 0, Value.int 2 0, Value.int 0 0, Value.int 0 0, Value.int 3 0, Value.ref 128, Value.bool true, Value.int 181 0, Value.ref 129, Value.none, Value.none, Value.none, Value.ref 130, Value.int 354 0, Value.int 80 0, Value.str ("/claim/cut.py") 355] }) ::
  (nat_lit 132, ⟨Value.type "function", none, .func (PySem.W.fnOf "roots" "roots" (defArgs s_roots) (defBody s_roots) (defScope s_roots) (Value.none) (Value.none) (Value.none) (Value.str ("bundlehouse.groups") 349) (none) (Value.ref 131) (Value.none)), #[]⟩) ::
  (nat_lit 133, { cls := Value.type "tuple", data := Data.seq #[] }) ::
  (nat_lit 135, { cls := Value.type "tuple", data := Data.seq #[Value.str ("parts") 360, Value.str ("some") 361, Value.str ("found") 362, Value.str ("part") 363, Value.str ("rows") 364, Value.str ("worth") 365, Value.str ("root") 366] }) ::
  (nat_lit 136, { cls := Value.type "tuple", data := Data.seq #[] }) ::
  (nat_lit 138, { cls := Value.type "code", data := Data.fields #[Value.str ("colours") 357, Value.str ("colours") 358, Value.str ("/claim/cut.py") 359, Value.int 83 0, Value.int 2 0, Value.int 0 0, Value.int 0 0, Value.int 3 0, Value.ref 133, Value.bool true, Value.int 181 0, Value.ref 134, Value.none, Value.ref 135, Value.ref 136, Value.ref 137, Value.int 367 0, Value.int 83 0, Value.str ("/claim/cut.py") 368] }) ::
  (nat_lit 139, ⟨Value.type "function", none, .func (PySem.W.fnOf "colours" "colours" (defArgs s_colours) (defBody s_colours) (defScope s_colours) (Value.none) (Value.none) (Value.none) (Value.str ("bundlehouse.groups") 349) (none) (Value.ref 138) (Value.none)), #[]⟩) ::
  (nat_lit 140, { cls := Value.type "tuple", data := Data.seq #[] }) ::
  (nat_lit 143, { cls := Value.type "code", data := Data.fields #[Value.str ("groups") 370, Value.str ("groups") 371, Value.str ("/claim/cut.py") 372, Value.int 93 0, Value.int 2 0, Value.int 0 0, Value.int 0 0, Value.int 3 0, Value.ref 140, Value.bool true, Value.int 181 0, Value.ref 141, Value.none, Value.none, Value.none, Value.ref 142, Value.int 373 0, Value.int 93 0, Value.str ("/claim/cut.py") 374] }) ::
  (nat_lit 144, ⟨Value.type "function", none, .func (PySem.W.fnOf "groups" "groups" (defArgs s_groups) (defBody s_groups) (defScope s_groups) (Value.none) (Value.none) (Value.none) (Value.str ("bundlehouse.groups") 349) (none) (Value.ref 143) (Value.none)), #[]⟩) ::
  (nat_lit 145, { cls := Value.type "tuple", data := Data.seq #[] }) ::
  (nat_lit 148, { cls := Value.type "code", data := Data.fields #[Value.str ("size_of") 376, Value.str ("size_of") 377, Value.str ("/claim/cut.py") 378, Value.int 100 0, Value.int 2 0, Value.int 0 0, Value.int 0 0, Value.int 3 0, Value.ref 145, Value.bool true, Value.int 181 0, Value.ref 146, Value.none, Value.none, Value.none, Value.ref 147, Value.int 379 0, Value.int 100 0, Value.str ("/claim/cut.py") 380] }) ::
  (nat_lit 149, ⟨Value.type "function", none, .func (PySem.W.fnOf "size_of" "size_of" (defArgs s_size_of) (defBody s_size_of) (defScope s_size_of) (Value.none) (Value.none) (Value.none) (Value.str ("bundlehouse.groups") 349) (none) (Value.ref 148) (Value.none)), #[]⟩) ::
  (nat_lit 150, { cls := Value.type "tuple", data := Data.seq #[] }) ::
  (nat_lit 153, { cls := Value.type "code", data := Data.fields #[Value.str ("size_of_part") 382, Value.str ("size_of_part") 383, Value.str ("/claim/cut.py") 384, Value.int 102 0, Value.int 1 0, Value.int 0 0, Value.int 0 0, Value.int 3 0, Value.ref 150, Value.bool true, Value.int 181 0, Value.ref 151, Value.none, Value.none, Value.none, Value.ref 152, Value.int 385 0, Value.int 102 0, Value.str ("/claim/cut.py") 386] }) ::
  (nat_lit 154, ⟨Value.type "function", none, .func (PySem.W.fnOf "size_of_part" "size_of_part" (defArgs s_size_of_part) (defBody s_size_of_part) (defScope s_size_of_part) (Value.none) (Value.none) (Value.none) (Value.str ("bundlehouse.groups") 349) (none) (Value.ref 153) (Value.none)), #[]⟩) ::
  (nat_lit 155, { cls := Value.type "tuple", data := Data.seq #[] }) ::
  (nat_lit 157, { cls := Value.type "tuple", data := Data.seq #[Value.str ("_law_script") 393, Value.str ("_law_k") 394] }) ::
  (nat_lit 158, { cls := Value.type "tuple", data := Data.seq #[] }) ::
  (nat_lit 160, { cls := Value.type "code", data := Data.fields #[Value.str ("_law_cell_at") 390, Value.str ("_law_cell_at") 391, Value.str ("/claim/cut.py") 392, Value.int 105 0, Value.int 2 0, Value.int 0 0, Value.int 0 0, Value.int 3 0, Value.ref 155, Value.bool true, Value.int 181 0, Value.ref 156, Value.none, Value.ref 157, Value.ref 158, Value.ref 159, Value.int 395 0, Value.int 105 0, Value.str ("/claim/cut.py") 396] }) ::
  (nat_lit 161, ⟨Value.type "function", none, .func (PySem.W.fnOf "_law_cell_at" "_law_cell_at" (defArgs s_law_cell_at) (defBody s_law_cell_at) (defScope s_law_cell_at) (Value.none) (Value.none) (Value.none) (Value.str ("law_bundlehouse_k59_whole_prices_are_loads") 388) (none) (Value.ref 160) (Value.none)), #[]⟩) ::
  (nat_lit 162, { cls := Value.type "tuple", data := Data.seq #[] }) ::
  (nat_lit 164, { cls := Value.type "tuple", data := Data.seq #[Value.str ("_law_cell") 401, Value.str ("_law_k") 402, Value.str ("_law_prime") 403] }) ::
  (nat_lit 165, { cls := Value.type "tuple", data := Data.seq #[] }) ::
  (nat_lit 167, { cls := Value.type "code", data := Data.fields #[Value.str ("_law_mixed") 398, Value.str ("_law_mixed") 399, Value.str ("/claim/cut.py") 400, Value.int 109 0, Value.int 3 0, Value.int 0 0, Value.int 0 0, Value.int 3 0, Value.ref 162, Value.bool true, Value.int 181 0, Value.ref 163, Value.none, Value.ref 164, Value.ref 165, Value.ref 166, Value.int 404 0, Value.int 109 0, Value.str ("/claim/cut.py") 405] }) ::
  (nat_lit 168, ⟨Value.type "function", none, .func (PySem.W.fnOf "_law_mixed" "_law_mixed" (defArgs s_law_mixed) (defBody s_law_mixed) (defScope s_law_mixed) (Value.none) (Value.none) (Value.none) (Value.str ("law_bundlehouse_k59_whole_prices_are_loads") 388) (none) (Value.ref 167) (Value.none)), #[]⟩) ::
  (nat_lit 169, { cls := Value.type "tuple", data := Data.seq #[] }) ::
  (nat_lit 172, { cls := Value.type "code", data := Data.fields #[Value.str ("_law_names") 407, Value.str ("_law_names") 408, Value.str ("/claim/cut.py") 409, Value.int 111 0, Value.int 2 0, Value.int 0 0, Value.int 0 0, Value.int 3 0, Value.ref 169, Value.bool true, Value.int 181 0, Value.ref 170, Value.none, Value.none, Value.none, Value.ref 171, Value.int 410 0, Value.int 111 0, Value.str ("/claim/cut.py") 411] }) ::
  (nat_lit 173, ⟨Value.type "function", none, .func (PySem.W.fnOf "_law_names" "_law_names" (defArgs s_law_names) (defBody s_law_names) (defScope s_law_names) (Value.none) (Value.none) (Value.none) (Value.str ("law_bundlehouse_k59_whole_prices_are_loads") 388) (none) (Value.ref 172) (Value.none)), #[]⟩) ::
  (nat_lit 174, { cls := Value.type "tuple", data := Data.seq #[] }) ::
  (nat_lit 176, { cls := Value.type "tuple", data := Data.seq #[Value.str ("_law_here") 416, Value.str ("_law_many") 417, Value.str ("_law_mix") 418, Value.str ("_law_mode") 419] }) ::
  (nat_lit 177, { cls := Value.type "tuple", data := Data.seq #[] }) ::
  (nat_lit 179, { cls := Value.type "code", data := Data.fields #[Value.str ("_law_other") 413, Value.str ("_law_other") 414, Value.str ("/claim/cut.py") 415, Value.int 130 0, Value.int 4 0, Value.int 0 0, Value.int 0 0, Value.int 3 0, Value.ref 174, Value.bool true, Value.int 181 0, Value.ref 175, Value.none, Value.ref 176, Value.ref 177, Value.ref 178, Value.int 420 0, Value.int 130 0, Value.str ("/claim/cut.py") 421] }) ::
  (nat_lit 180, ⟨Value.type "function", none, .func (PySem.W.fnOf "_law_other" "_law_other" (defArgs s_law_other) (defBody s_law_other) (defScope s_law_other) (Value.none) (Value.none) (Value.none) (Value.str ("law_bundlehouse_k59_whole_prices_are_loads") 388) (none) (Value.ref 179) (Value.none)), #[]⟩) ::
  (nat_lit 181, { cls := Value.type "tuple", data := Data.seq #[] }) ::
  (nat_lit 183, { cls := Value.type "tuple", data := Data.seq #[Value.str ("_law_kind") 426, Value.str ("_law_mix") 427, Value.str ("_law_other_here") 428, Value.str ("_law_mine") 429, Value.str ("_law_given") 430, Value.str ("_law_others") 431, Value.str ("_law_own") 432] }) ::
  (nat_lit 184, { cls := Value.type "tuple", data := Data.seq #[] }) ::
  (nat_lit 186, { cls := Value.type "code", data := Data.fields #[Value.str ("_law_row") 423, Value.str ("_law_row") 424, Value.str ("/claim/cut.py") 425, Value.int 138 0, Value.int 6 0, Value.int 0 0, Value.int 0 0, Value.int 3 0, Value.ref 181, Value.bool true, Value.int 181 0, Value.ref 182, Value.none, Value.ref 183, Value.ref 184, Value.ref 185, Value.int 433 0, Value.int 138 0, Value.str ("/claim/cut.py") 434] }) ::
  (nat_lit 187, ⟨Value.type "function", none, .func (PySem.W.fnOf "_law_row" "_law_row" (defArgs s_law_row) (defBody s_law_row) (defScope s_law_row) (Value.none) (Value.none) (Value.none) (Value.str ("law_bundlehouse_k59_whole_prices_are_loads") 388) (none) (Value.ref 186) (Value.none)), #[]⟩) ::
  (nat_lit 188, { cls := Value.type "tuple", data := Data.seq #[] }) ::
  (nat_lit 191, { cls := Value.type "code", data := Data.fields #[Value.str ("_law_parts") 436, Value.str ("_law_parts") 437, Value.str ("/claim/cut.py") 438, Value.int 160 0, Value.int 4 0, Value.int 0 0, Value.int 0 0, Value.int 3 0, Value.ref 188, Value.bool true, Value.int 181 0, Value.ref 189, Value.none, Value.none, Value.none, Value.ref 190, Value.int 439 0, Value.int 160 0, Value.str ("/claim/cut.py") 440] }) ::
  (nat_lit 192, ⟨Value.type "function", none, .func (PySem.W.fnOf "_law_parts" "_law_parts" (defArgs s_law_parts) (defBody s_law_parts) (defScope s_law_parts) (Value.none) (Value.none) (Value.none) (Value.str ("law_bundlehouse_k59_whole_prices_are_loads") 388) (none) (Value.ref 191) (Value.none)), #[]⟩) ::
  (nat_lit 193, { cls := Value.type "tuple", data := Data.seq #[] }) ::
  (nat_lit 195, { cls := Value.type "tuple", data := Data.seq #[Value.str ("_law_names_here") 445, Value.str ("_law_cell") 446, Value.str ("_law_most") 447, Value.str ("_law_left") 448, Value.str ("_law_found") 449, Value.str ("_law_k") 450] }) ::
  (nat_lit 196, { cls := Value.type "tuple", data := Data.seq #[] }) ::
  (nat_lit 198, { cls := Value.type "code", data := Data.fields #[Value.str ("_law_some") 442, Value.str ("_law_some") 443, Value.str ("/claim/cut.py") 444, Value.int 174 0, Value.int 3 0, Value.int 0 0, Value.int 0 0, Value.int 3 0, Value.ref 193, Value.bool true, Value.int 181 0, Value.ref 194, Value.none, Value.ref 195, Value.ref 196, Value.ref 197, Value.int 451 0, Value.int 174 0, Value.str ("/claim/cut.py") 452] }) ::
  (nat_lit 199, ⟨Value.type "function", none, .func (PySem.W.fnOf "_law_some" "_law_some" (defArgs s_law_some) (defBody s_law_some) (defScope s_law_some) (Value.none) (Value.none) (Value.none) (Value.str ("law_bundlehouse_k59_whole_prices_are_loads") 388) (none) (Value.ref 198) (Value.none)), #[]⟩) ::
  (nat_lit 200, { cls := Value.type "tuple", data := Data.seq #[] }) ::
  (nat_lit 202, { cls := Value.type "tuple", data := Data.seq #[Value.str ("_law_parts_here") 457, Value.str ("_law_root") 458, Value.str ("_law_rows_by") 459, Value.str ("_law_found") 460, Value.str ("_law_at") 461, Value.str ("_law_row_here") 462] }) ::
  (nat_lit 203, { cls := Value.type "tuple", data := Data.seq #[] }) ::
  (nat_lit 205, { cls := Value.type "code", data := Data.fields #[Value.str ("_law_come") 454, Value.str ("_law_come") 455, Value.str ("/claim/cut.py") 456, Value.int 180 0, Value.int 2 0, Value.int 0 0, Value.int 0 0, Value.int 3 0, Value.ref 200, Value.bool true, Value.int 181 0, Value.ref 201, Value.none, Value.ref 202, Value.ref 203, Value.ref 204, Value.int 463 0, Value.int 180 0, Value.str ("/claim/cut.py") 464] }) ::
  (nat_lit 206, ⟨Value.type "function", none, .func (PySem.W.fnOf "_law_come" "_law_come" (defArgs s_law_come) (defBody s_law_come) (defScope s_law_come) (Value.none) (Value.none) (Value.none) (Value.str ("law_bundlehouse_k59_whole_prices_are_loads") 388) (none) (Value.ref 205) (Value.none)), #[]⟩) ::
  (nat_lit 207, { cls := Value.type "tuple", data := Data.seq #[] }) ::
  (nat_lit 209, { cls := Value.type "tuple", data := Data.seq #[Value.str ("_law_cell") 469] }) ::
  (nat_lit 210, { cls := Value.type "tuple", data := Data.seq #[] }) ::
  (nat_lit 212, { cls := Value.type "code", data := Data.fields #[Value.str ("_law_toll") 466, Value.str ("_law_toll") 467, Value.str ("/claim/cut.py") 468, Value.int 190 0, Value.int 1 0, Value.int 0 0, Value.int 0 0, Value.int 3 0, Value.ref 207, Value.bool true, Value.int 181 0, Value.ref 208, Value.none, Value.ref 209, Value.ref 210, Value.ref 211, Value.int 470 0, Value.int 190 0, Value.str ("/claim/cut.py") 471] }) ::
  (nat_lit 213, ⟨Value.type "function", none, .func (PySem.W.fnOf "_law_toll" "_law_toll" (defArgs s_law_toll) (defBody s_law_toll) (defScope s_law_toll) (Value.none) (Value.none) (Value.none) (Value.str ("law_bundlehouse_k59_whole_prices_are_loads") 388) (none) (Value.ref 212) (Value.none)), #[]⟩) ::
  (nat_lit 214, { cls := Value.type "tuple", data := Data.seq #[] }) ::
  (nat_lit 216, { cls := Value.type "tuple", data := Data.seq #[Value.str ("_law_told") 476, Value.str ("_law_cut") 477, Value.str ("_law_packs_here") 478, Value.str ("_law_numbers") 479, Value.str ("_law_names_here") 480, Value.str ("_law_number") 481] }) ::
  (nat_lit 217, { cls := Value.type "tuple", data := Data.seq #[] }) ::
  (nat_lit 219, { cls := Value.type "code", data := Data.fields #[Value.str ("_law_packs") 473, Value.str ("_law_packs") 474, Value.str ("/claim/cut.py") 475, Value.int 194 0, Value.int 2 0, Value.int 0 0, Value.int 0 0, Value.int 3 0, Value.ref 214, Value.bool true, Value.int 181 0, Value.ref 215, Value.none, Value.ref 216, Value.ref 217, Value.ref 218, Value.int 482 0, Value.int 194 0, Value.str ("/claim/cut.py") 483] }) ::
  (nat_lit 220, ⟨Value.type "function", none, .func (PySem.W.fnOf "_law_packs" "_law_packs" (defArgs s_law_packs) (defBody s_law_packs) (defScope s_law_packs) (Value.none) (Value.none) (Value.none) (Value.str ("law_bundlehouse_k59_whole_prices_are_loads") 388) (none) (Value.ref 219) (Value.none)), #[]⟩) ::
  (nat_lit 221, { cls := Value.type "tuple", data := Data.seq #[] }) ::
  (nat_lit 224, { cls := Value.type "code", data := Data.fields #[Value.str ("_law_paid") 485, Value.str ("_law_paid") 486, Value.str ("/claim/cut.py") 487, Value.int 202 0, Value.int 4 0, Value.int 0 0, Value.int 0 0, Value.int 3 0, Value.ref 221, Value.bool true, Value.int 181 0, Value.ref 222, Value.none, Value.none, Value.none, Value.ref 223, Value.int 488 0, Value.int 202 0, Value.str ("/claim/cut.py") 489] }) ::
  (nat_lit 225, ⟨Value.type "function", none, .func (PySem.W.fnOf "_law_paid" "_law_paid" (defArgs s_law_paid) (defBody s_law_paid) (defScope s_law_paid) (Value.none) (Value.none) (Value.none) (Value.str ("law_bundlehouse_k59_whole_prices_are_loads") 388) (none) (Value.ref 224) (Value.none)), #[]⟩) ::
  (nat_lit 226, { cls := Value.type "tuple", data := Data.seq #[] }) ::
  (nat_lit 229, { cls := Value.type "code", data := Data.fields #[Value.str ("_law_each_once") 491, Value.str ("_law_each_once") 492, Value.str ("/claim/cut.py") 493, Value.int 213 0, Value.int 3 0, Value.int 0 0, Value.int 0 0, Value.int 3 0, Value.ref 226, Value.bool true, Value.int 181 0, Value.ref 227, Value.none, Value.none, Value.none, Value.ref 228, Value.int 494 0, Value.int 213 0, Value.str ("/claim/cut.py") 495] }) ::
  (nat_lit 230, ⟨Value.type "function", none, .func (PySem.W.fnOf "_law_each_once" "_law_each_once" (defArgs s_law_each_once) (defBody s_law_each_once) (defScope s_law_each_once) (Value.none) (Value.none) (Value.none) (Value.str ("law_bundlehouse_k59_whole_prices_are_loads") 388) (none) (Value.ref 229) (Value.none)), #[]⟩) ::
  (nat_lit 231, { cls := Value.type "tuple", data := Data.seq #[] }) ::
  (nat_lit 234, { cls := Value.type "code", data := Data.fields #[Value.str ("_law_apart") 497, Value.str ("_law_apart") 498, Value.str ("/claim/cut.py") 499, Value.int 219 0, Value.int 2 0, Value.int 0 0, Value.int 0 0, Value.int 3 0, Value.ref 231, Value.bool true, Value.int 181 0, Value.ref 232, Value.none, Value.none, Value.none, Value.ref 233, Value.int 500 0, Value.int 219 0, Value.str ("/claim/cut.py") 501] }) ::
  (nat_lit 235, ⟨Value.type "function", none, .func (PySem.W.fnOf "_law_apart" "_law_apart" (defArgs s_law_apart) (defBody s_law_apart) (defScope s_law_apart) (Value.none) (Value.none) (Value.none) (Value.str ("law_bundlehouse_k59_whole_prices_are_loads") 388) (none) (Value.ref 234) (Value.none)), #[]⟩) ::
  (nat_lit 236, { cls := Value.type "tuple", data := Data.seq #[] }) ::
  (nat_lit 239, { cls := Value.type "code", data := Data.fields #[Value.str ("law") 503, Value.str ("law") 504, Value.str ("/claim/cut.py") 505, Value.int 225 0, Value.int 1 0, Value.int 0 0, Value.int 0 0, Value.int 3 0, Value.ref 236, Value.bool true, Value.int 181 0, Value.ref 237, Value.none, Value.none, Value.none, Value.ref 238, Value.int 506 0, Value.int 225 0, Value.str ("/claim/cut.py") 507] }) ::
  (nat_lit 240, ⟨Value.type "function", none, .func (PySem.W.fnOf "law" "law" (defArgs s_law) (defBody s_law) (defScope s_law) (Value.none) (Value.none) (Value.none) (Value.str ("law_bundlehouse_k59_whole_prices_are_loads") 388) (none) (Value.ref 239) (Value.none)), #[]⟩) :: []
noncomputable def heapA : List Addr := [nat_lit 2, nat_lit 3, nat_lit 15, nat_lit 22, nat_lit 23, nat_lit 24, nat_lit 25, nat_lit 28, nat_lit 35, nat_lit 37, nat_lit 38, nat_lit 40, nat_lit 42, nat_lit 43, nat_lit 44, nat_lit 47, nat_lit 50, nat_lit 51, nat_lit 52, nat_lit 54, nat_lit 55, nat_lit 57, nat_lit 58, nat_lit 59, nat_lit 62, nat_lit 63, nat_lit 64, nat_lit 67, nat_lit 68, nat_lit 69, nat_lit 71, nat_lit 72, nat_lit 74, nat_lit 75, nat_lit 76, nat_lit 78, nat_lit 79, nat_lit 81, nat_lit 82, nat_lit 83, nat_lit 86, nat_lit 87, nat_lit 88, nat_lit 91, nat_lit 92, nat_lit 93, nat_lit 95, nat_lit 96, nat_lit 98, nat_lit 99, nat_lit 100, nat_lit 102, nat_lit 103, nat_lit 105, nat_lit 106, nat_lit 107, nat_lit 109, nat_lit 110, nat_lit 112, nat_lit 113, nat_lit 114, nat_lit 116, nat_lit 117, nat_lit 119, nat_lit 120, nat_lit 121, nat_lit 123, nat_lit 124, nat_lit 126, nat_lit 127, nat_lit 128, nat_lit 131, nat_lit 132, nat_lit 133, nat_lit 135, nat_lit 136, nat_lit 138, nat_lit 139, nat_lit 140, nat_lit 143, nat_lit 144, nat_lit 145, nat_lit 148, nat_lit 149, nat_lit 150, nat_lit 153, nat_lit 154, nat_lit 155, nat_lit 157, nat_lit 158, nat_lit 160, nat_lit 161, nat_lit 162, nat_lit 164, nat_lit 165, nat_lit 167, nat_lit 168, nat_lit 169, nat_lit 172, nat_lit 173, nat_lit 174, nat_lit 176, nat_lit 177, nat_lit 179, nat_lit 180, nat_lit 181, nat_lit 183, nat_lit 184, nat_lit 186, nat_lit 187, nat_lit 188, nat_lit 191, nat_lit 192, nat_lit 193, nat_lit 195, nat_lit 196, nat_lit 198, nat_lit 199, nat_lit 200, nat_lit 202, nat_lit 203, nat_lit 205, nat_lit 206, nat_lit 207, nat_lit 209, nat_lit 210, nat_lit 212, nat_lit 213, nat_lit 214, nat_lit 216, nat_lit 217, nat_lit 219, nat_lit 220, nat_lit 221, nat_lit 224, nat_lit 225, nat_lit 226, nat_lit 229, nat_lit 230, nat_lit 231, nat_lit 234, nat_lit 235, nat_lit 236, nat_lit 239, nat_lit 240]
theorem heapE : ∀ P, heapA = (heapK P).map (·.1) := fun _ => by kernel_rfl
theorem said : PySem.Challenge.rw_bundlehouse_k59_whole_prices_are_loads.wellSaid = true := by kernel_rfl
theorem top_run : LeftO PySem.Challenge.rw_bundlehouse_k59_whole_prices_are_loads.row.prog (HD.cutTo PySem.Challenge.rw_bundlehouse_k59_whole_prices_are_loads.prog [1, 2, 4, 5, 6, 7, 8, 9, 10, 11, 12, 13, 15, 16, 17, 18, 20, 21, 22, 23, 24, 26, 27, 28, 29, 30, 31, 32, 33, 34, 35, 36, 37, 38, 39]) [] (fun s => xlAt (HD.cutTo PySem.Challenge.rw_bundlehouse_k59_whole_prices_are_loads.prog [1, 2, 4, 5, 6, 7, 8, 9, 10, 11, 12, 13, 15, 16, 17, 18, 20, 21, 22, 23, 24, 26, 27, 28, 29, 30, 31, 32, 33, 34, 35, 36, 37, 38, 39]) [] s && recOk (RowW.records PySem.Challenge.rw_bundlehouse_k59_whole_prices_are_loads.row.toRowW) s) (kHook heapK heapA heapE).obs (kHook heapK heapA heapE).val 2978 := fun w => by kernel_rfl
end K59
open PySem PySem.W PyProof.Rows
set_option maxRecDepth 100000 in
set_option maxHeartbeats 0 in
theorem PySem.Challenge.cw_bundlehouse_k59_whole_prices_are_loads_holds : PySem.Challenge.rw_bundlehouse_k59_whole_prices_are_loads.Holds := by
  w_on
  refine HD.head_of (l := PySem.Challenge.rw_bundlehouse_k59_whole_prices_are_loads) (q := HD.cutTo PySem.Challenge.rw_bundlehouse_k59_whole_prices_are_loads.prog [1, 2, 4, 5, 6, 7, 8, 9, 10, 11, 12, 13, 15, 16, 17, 18, 20, 21, 22, 23, 24, 26, 27, 28, 29, 30, 31, 32, 33, 34, 35, 36, 37, 38, 39]) (K := K59.heapK) (as := K59.heapA) (N := 2978) K59.heapE K59.said K59.top_run (by rfl) (by rfl) (by rfl) (by rfl) (by decide +kernel) ⟨rfl, rfl, rfl, rfl, rfl, by decide +kernel⟩ ?hw ?hc
  (case hw => w_witness2)
  k_fill
  refine K59.walk (l := PySem.Challenge.rw_bundlehouse_k59_whole_prices_are_loads) rfl rfl (fun w h Y => PySem.W.kIn_of Y) ?F
  case F =>
    intro w mg fa h KX G hmg
    refine' K59.all_mk KX G hmg ?a0 ?l0 ?c0 ?k0 ?a1 ?l1 ?c1 ?k1 ?a2 ?l2 ?c2 ?k2 ?a3 ?l3 ?c3 ?k3 ?a4 ?l4 ?c4 ?k4 ?a5 ?l5 ?c5 ?k5 ?a6 ?l6 ?c6 ?k6 ?a7 ?l7 ?c7 ?k7 ?a8 ?l8 ?c8 ?k8 ?a9 ?l9 ?c9 ?k9 ?a10 ?l10 ?c10 ?k10 ?a11 ?l11 ?c11 ?k11 ?a12 ?l12 ?c12 ?k12 ?a13 ?l13 ?c13 ?k13 ?a14 ?l14 ?c14 ?k14 ?a15 ?l15 ?c15 ?k15 ?a16 ?l16 ?c16 ?k16 ?a17 ?l17 ?c17 ?k17 ?a18 ?l18 ?c18 ?k18 ?a19 ?l19 ?c19 ?k19 ?a20 ?l20 ?c20 ?k20 ?a21 ?l21 ?c21 ?k21 ?a22 ?l22 ?c22 ?k22 ?a23 ?l23 ?c23 ?k23 ?a24 ?l24 ?c24 ?k24 ?a25 ?l25 ?c25 ?k25 ?a26 ?l26 ?c26 ?k26 ?a27 ?l27 ?c27 ?k27 ?a28 ?l28 ?c28 ?k28 ?a29 ?l29 ?c29 ?k29 ?a30 ?l30 ?c30 ?k30 ?a31 ?l31 ?c31 ?k31 ?z0 ?z1 ?z2 ?z3 ?z4 ?z5 ?z6 ?z7 ?z8 ?z9 ?z10 ?z11 ?gc0
    (case a0 => k_is); (case l0 => k_is); (case c0 => k_is); (case k0 => k_is)
    (case a1 => k_is); (case l1 => k_is); (case c1 => k_is); (case k1 => k_is)
    (case a2 => k_is); (case l2 => k_is); (case c2 => k_is); (case k2 => k_is)
    (case a3 => k_is); (case l3 => k_is); (case c3 => k_is); (case k3 => k_is)
    (case a4 => k_is); (case l4 => k_is); (case c4 => k_is); (case k4 => k_is)
    (case a5 => k_is); (case l5 => k_is); (case c5 => k_is); (case k5 => k_is)
    (case a6 => k_is); (case l6 => k_is); (case c6 => k_is); (case k6 => k_is)
    (case a7 => k_is); (case l7 => k_is); (case c7 => k_is); (case k7 => k_is)
    (case a8 => k_is); (case l8 => k_is); (case c8 => k_is); (case k8 => k_is)
    (case a9 => k_is); (case l9 => k_is); (case c9 => k_is); (case k9 => k_is)
    (case a10 => k_is); (case l10 => k_is); (case c10 => k_is); (case k10 => k_is)
    (case a11 => k_is); (case l11 => k_is); (case c11 => k_is); (case k11 => k_is)
    (case a12 => k_is); (case l12 => k_is); (case c12 => k_is); (case k12 => k_is)
    (case a13 => k_is); (case l13 => k_is); (case c13 => k_is); (case k13 => k_is)
    (case a14 => k_is); (case l14 => k_is); (case c14 => k_is); (case k14 => k_is)
    (case a15 => k_is); (case l15 => k_is); (case c15 => k_is); (case k15 => k_is)
    (case a16 => k_is); (case l16 => k_is); (case c16 => k_is); (case k16 => k_is)
    (case a17 => k_is); (case l17 => k_is); (case c17 => k_is); (case k17 => k_is)
    (case a18 => k_is); (case l18 => k_is); (case c18 => k_is); (case k18 => k_is)
    (case a19 => k_is); (case l19 => k_is); (case c19 => k_is); (case k19 => k_is)
    (case a20 => k_is); (case l20 => k_is); (case c20 => k_is); (case k20 => k_is)
    (case a21 => k_is); (case l21 => k_is); (case c21 => k_is); (case k21 => k_is)
    (case a22 => k_is); (case l22 => k_is); (case c22 => k_is); (case k22 => k_is)
    (case a23 => k_is); (case l23 => k_is); (case c23 => k_is); (case k23 => k_is)
    (case a24 => k_is); (case l24 => k_is); (case c24 => k_is); (case k24 => k_is)
    (case a25 => k_is); (case l25 => k_is); (case c25 => k_is); (case k25 => k_is)
    (case a26 => k_is); (case l26 => k_is); (case c26 => k_is); (case k26 => k_is)
    (case a27 => k_is); (case l27 => k_is); (case c27 => k_is); (case k27 => k_is)
    (case a28 => k_is); (case l28 => k_is); (case c28 => k_is); (case k28 => k_is)
    (case a29 => k_is); (case l29 => k_is); (case c29 => k_is); (case k29 => k_is)
    (case a30 => k_is); (case l30 => k_is); (case c30 => k_is); (case k30 => k_is)
    (case a31 => k_is); (case l31 => k_is); (case c31 => k_is); (case k31 => k_is)
    (case z0 => k_is); (case z1 => k_is); (case z2 => k_is); (case z3 => k_is); (case z4 => k_is); (case z5 => k_is); (case z6 => k_is); (case z7 => k_is); (case z8 => k_is); (case z9 => k_is); (case z10 => k_is); (case z11 => k_is)
    (case gc0 => k_is)