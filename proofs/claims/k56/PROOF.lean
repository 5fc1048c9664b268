import PyProof.Rows.All
import Wide.All
import OpenK.AllK
import Wide.FinOn
import Lean
import PyProof.EqAt
import PyProof.EqKinds
import PyProof.TupleCall
import PySem.Challenge.RW_bundlehouse_k56_all_small_cuts
set_option Elab.async false
set_option linter.all false
set_option maxRecDepth 100000
namespace L2
open PySem PySem.Spec PyProof.Rows
abbrev Key := Sum Int Str
def keyIs : Key → Value → Bool
  | .inl k, v => Value.isInt k v
  | .inr x, v => Value.isStrOf x v
def keyH (w : World) : Key → Int
  | .inl k => hashInt k
  | .inr x => hashStr w x
theorem keyIs_shape : ∀ {k : Key} {v : Value}, keyIs k v = true → (∃ i t, k = Sum.inl i ∧ v = Value.int i t) ∨ (∃ x t, k = Sum.inr x ∧ v = Value.str x t)
  | .inl i, v, h => by
    obtain ⟨t, e⟩ := Value.isInt_shape (k := i) (v := v) h
    exact .inl ⟨i, t, rfl, e⟩
  | .inr x, v, h => by
    obtain ⟨t, e⟩ := Value.isStrOf_shape (x := x) (v := v) h
    exact .inr ⟨x, t, rfl, e⟩
theorem key_ll (a b : Int) : decide ((Sum.inl a : Key) = Sum.inl b) = (a == b) := by
  by_cases e : a = b
  · subst e; simp
  · have h : ¬ (Sum.inl a : Key) = Sum.inl b := fun q => e (Sum.inl.inj q)
    rw [decide_eq_false h]
    exact (beq_eq_false_iff_ne.mpr e).symm
theorem key_rr (a b : Str) : decide ((Sum.inr a : Key) = Sum.inr b) = decide (a = b) := by
  by_cases e : a = b
  · subst e; simp
  · have h : ¬ (Sum.inr a : Key) = Sum.inr b := fun q => e (Sum.inr.inj q)
    rw [decide_eq_false h, decide_eq_false e]
theorem key_lr (a : Int) (b : Str) : decide ((Sum.inl a : Key) = Sum.inr b) = false := decide_eq_false (fun q => nomatch q)
theorem key_rl (a : Str) (b : Int) : decide ((Sum.inr a : Key) = Sum.inl b) = false := decide_eq_false (fun q => nomatch q)
def mixKind (prog : Program) (w : World) : PySem.KeyKind prog w Key where
  is := keyIs
  hash := keyH w
  inj := fun v a b ha hb => by
    rcases keyIs_shape ha with ⟨i, t, rfl, rfl⟩ | ⟨x, t, rfl, rfl⟩
    · rcases keyIs_shape hb with ⟨j, u, rfl, e⟩ | ⟨y, u, rfl, e⟩
      · injection e with e1 _; rw [e1]
      · exact nomatch e
    · rcases keyIs_shape hb with ⟨j, u, rfl, e⟩ | ⟨y, u, rfl, e⟩
      · exact nomatch e
      · injection e with e1 _; rw [e1]
  byValue := fun k v h => by
    rcases keyIs_shape h with ⟨i, t, rfl, rfl⟩ | ⟨x, t, rfl, rfl⟩ <;> rfl
  pyHash := fun hv h => by
    rcases keyIs_shape hv with ⟨i, t, rfl, rfl⟩ | ⟨x, t, rfl, rfl⟩
    · exact wpAny_pyHash_int h
    · exact wpAny_pyHash_str h
  eqBool := fun hu hv h => by
    rcases keyIs_shape hu with ⟨i, t, rfl, rfl⟩ | ⟨x, t, rfl, rfl⟩
    · rcases keyIs_shape hv with ⟨j, u, rfl, rfl⟩ | ⟨y, u, rfl, rfl⟩
      · rw [key_ll] at h; exact wpAny_eqBool_int h
      · rw [key_lr] at h; exact SeqAt.EqAt.int_str i t y u _ _ _ _ h
    · rcases keyIs_shape hv with ⟨j, u, rfl, rfl⟩ | ⟨y, u, rfl, rfl⟩
      · rw [key_rl] at h; exact SeqAt.EqAt.str_int x t j u _ _ _ _ h
      · rw [key_rr] at h; exact wpAny_eqBool_str h
  «strs» := fun k x t v h => by
    rcases keyIs_shape h with ⟨i, u, rfl, e⟩ | ⟨y, u, rfl, e⟩
    · exact nomatch e
    · injection e with e1 _
      subst e1
      cases v <;> rfl
end L2
namespace L2
open PySem PySem.Spec PyProof.Rows
inductive V where
  | non | bl (b : Bool) | int (i : Int) | str (x : Str) | byt (b : Array UInt8) | flt (b : UInt64) | ref (a : Addr) | ty (n : String)
  deriving DecidableEq
def RelV : V → Value → Prop
  | .non, u => u = Value.none
  | .bl b, u => u = Value.bool b
  | .int i, u => ∃ t, u = Value.int i t
  | .str x, u => ∃ t, u = Value.str x t
  | .byt b, u => ∃ t, u = Value.bytes b t
  | .flt b, u => ∃ t, u = Value.float b t
  | .ref a, u => u = Value.ref a
  | .ty n, u => u = Value.type n
abbrev Vals : List V → List Value → Prop := Paired RelV
theorem Vals.length {xs : List V} {us : List Value} (r : Vals xs us) : xs.length = us.length := Paired.length r
theorem Vals.get : ∀ {xs : List V} {us : List Value} {i : Nat} {x : V}, Vals xs us → xs[i]? = some x → ∃ u, us[i]? = some u ∧ RelV x u
  | _, _, _, _, .nil, e => by simp at e
  | _, _, 0, _, .cons r _, e => by simp at e; subst e; exact ⟨_, rfl, r⟩
  | _, _, i + 1, x, .cons _ t, e => by
    obtain ⟨u, h1, h2⟩ := Vals.get (i := i) (x := x) t (by simpa using e)
    exact ⟨u, by simpa using h1, h2⟩
theorem Vals.append : ∀ {xs ys : List V} {us ws : List Value}, Vals xs us → Vals ys ws → Vals (xs ++ ys) (us ++ ws)
  | _, _, _, _, .nil, s => s
  | _, _, _, _, .cons r t, s => .cons r (Vals.append t s)
theorem Vals.take : ∀ {xs : List V} {us : List Value} (n : Nat), Vals xs us → Vals (xs.take n) (us.take n)
  | _, _, 0, _ => .nil
  | _, _, _ + 1, .nil => .nil
  | _, _, n + 1, .cons r t => .cons r (Vals.take n t)
theorem Vals.drop : ∀ {xs : List V} {us : List Value} (n : Nat), Vals xs us → Vals (xs.drop n) (us.drop n)
  | _, _, 0, r => r
  | _, _, _ + 1, .nil => .nil
  | _, _, n + 1, .cons _ t => Vals.drop n t
def RelO : Option V → Option Value → Prop
  | some v, some u => RelV v u
  | none, none => True
  | _, _ => False
def KV {κ : Type} : List (κ × V) → List (κ × Value) → Prop := Paired fun (p : κ × V) (q : κ × Value) => p.1 = q.1 ∧ RelV p.2 q.2
def kV : Key → V
  | .inl i => .int i
  | .inr x => .str x
inductive HO where
  | lst (xs : List V)
  | tup (xs : List V)
  | dK (kvs : List (Key × V)) | dT (kvs : List (List Key × V))
  | set (S : Int → Bool) (n : Nat)
  | ins (C dx : Addr) (fs : List (Str × V))
  | own (x : Addr)
  | xd (fs : List (Str × V))
  | met (f x : Addr)
  | rng (lo hi : Int)
  | frz (o : Obj) (u : HO)
  | tbl (ps : Array Value)
  | ext (φ : Heap → Prop)
abbrev Hp := Addr → Option HO
def upd (H : Hp) (a : Addr) (o : HO) : Hp := fun b => if b = a then some o else H b
theorem upd_same {H : Hp} {a : Addr} {o : HO} : upd H a o a = some o := by unfold upd; rw [if_pos rfl]
theorem upd_ne {H : Hp} {a b : Addr} {o : HO} (h : b ≠ a) : upd H a o b = H b := by unfold upd; rw [if_neg h]
theorem ne_of {H : Hp} {a b : Addr} {o u : HO} (h : H a = some o) (h' : H b = some u) (d : o ≠ u) : a ≠ b := by
  intro e; subst e; rw [h] at h'; exact d (Option.some.inj h')
theorem ne_of_none {H : Hp} {a b : Addr} {o : HO} (h : H a = some o) (h' : H b = none) : a ≠ b := by
  intro e; subst e; rw [h] at h'; cases h'
section
variable (P : Program) (w : World)
def ObjOk (H : Hp) (h : Heap) (a : Addr) : HO → Prop
  | .lst xs => xs.length ≤ sizeLine ∧ ∃ (its : List Value) (n : Nat), Vals xs its ∧ h.get? a = some { cls := .type "list", data := .seq its.toArray n }
  | .tup xs => xs.length ≤ sizeLine ∧ ∃ its : List Value, Vals xs its ∧ IsTup h a its.toArray
  | .dK kvs => kvs.length ≤ sizeLine ∧ (a == sysModules) = false ∧ ∃ vs, KV kvs vs ∧ h.DictOf (mixKind P w) a vs
  | .dT kvs => kvs.length ≤ sizeLine ∧ (a == sysModules) = false ∧ ∃ xs : List (List Key × Addr × Value),
      Paired (fun (p : List Key × V) (q : List Key × Addr × Value) => p.1 = q.1 ∧ H q.2.1 = some (.tup (p.1.map kV)) ∧ RelV p.2 q.2.2) kvs xs ∧
      ∃ o es ep, h.get? a = some o ∧ o.ExactDict ∧ o.data = .dict es ep ∧ es.toList = xs.map (entryOfKey (tupleKind (mixKind P w))) ∧ (xs.map (·.1)).Nodup
  | .set S n => h.SetOf (intKind P w) a S n
  | .ins C dx fs => H dx = some (.own a) ∧ fs.length ≤ 1000 ∧ dx ≠ a ∧ h.get? a = some (PySem.W.instObj C dx) ∧
      ∃ mA, h.Ns1 dx mA ∧ (∀ f, RelO (fs.lookup f) (mA f)) ∧ PySem.Within mA (fs.map (·.1))
  | .own _ => ∃ o, h.get? a = some o
  | .xd fs => ∃ mA, h.Ns1 a mA ∧ ∀ f, RelO (fs.lookup f) (mA f)
  | .rng lo hi => ∃ t u v, h.get? a = some { cls := .type "range", data := .fields #[.int lo t, .int hi u, .int 1 v] }
  | .frz o u => h.get? a = some o ∧ ObjOk H h a u
  | .tbl ps => h.get? a = some { cls := .none, data := .fields ps }
  | .met f x => h.get? a = some (PySem.W.methodObj (.ref f) (.ref x))
  | .ext φ => φ h ∧ (∃ o, h.get? a = some o) ∧ ∀ h1 h2 : Heap, φ h1 → (∀ o, h1.get? a = some o → h2.get? a = some o) → φ h2
def HOk (H : Hp) (h : Heap) : Prop := ∀ a o, H a = some o → ObjOk P w H h a o
end
section
variable {P : Program} {w : World} {H H' : Hp} {h h' : Heap} {a : Addr} {o : HO}
theorem ObjOk.lt (x : ObjOk P w H h a o) : a < h.objs.size := by
  cases o with
  | lst xs => obtain ⟨_, _, _, _, e⟩ := x; exact Heap.lt_size e
  | tup xs => obtain ⟨_, _, _, p⟩ := x; exact p.lt
  | dK kvs => obtain ⟨_, _, _, _, o, _, _, e, _⟩ := x; exact Heap.lt_size e
  | dT kvs => obtain ⟨_, _, _, _, o, _, _, e, _⟩ := x; exact Heap.lt_size e
  | set S n => obtain ⟨o, _, _, _, e, _⟩ := x; exact Heap.lt_size e
  | ins C dx fs => obtain ⟨_, _, _, e, _⟩ := x; exact Heap.lt_size e
  | own y => obtain ⟨_, e⟩ := x; exact Heap.lt_size e
  | xd fs => obtain ⟨_, ⟨_, _, _, e, _⟩, _⟩ := x; exact Heap.lt_size e
  | rng lo hi => obtain ⟨_, _, _, e⟩ := x; exact Heap.lt_size e
  | frz ob u => obtain ⟨e, _⟩ := x; exact Heap.lt_size e
  | tbl ps => exact Heap.lt_size (show h.get? a = some _ from x)
  | met f y => exact Heap.lt_size (show h.get? a = some _ from x)
  | ext φ => obtain ⟨_, ⟨_, e⟩, _⟩ := x; exact Heap.lt_size e
theorem Paired.mapP {α β : Type} {F G : α → β → Prop} : ∀ {l₁ : List α} {l₂ : List β}, Paired F l₁ l₂ → (∀ a b, F a b → G a b) → Paired G l₁ l₂
  | _, _, .nil, _ => .nil
  | _, _, .cons r t, f => .cons (f _ _ r) (Paired.mapP t f)
theorem ObjOk.stay (x : ObjOk P w H h a o) (k : ∀ b u, (b = a ∨ H b = some (.own a)) → h.get? b = some u → h'.get? b = some u)
    (ho : ∀ b, H b = some (.own a) → H' b = some (.own a)) (ht : ∀ b xs, H b = some (.tup xs) → H' b = some (.tup xs)) : ObjOk P w H' h' a o := by
  induction o with
  | lst xs => obtain ⟨z, its, n, r, e⟩ := x; exact ⟨z, its, n, r, k _ _ (.inl rfl) e⟩
  | tup xs => obtain ⟨z, its, r, ob, e, c⟩ := x; exact ⟨z, its, r, ob, k _ _ (.inl rfl) e, c⟩
  | dK kvs => obtain ⟨z, y, vs, r, ob, es, ep, e, c⟩ := x; exact ⟨z, y, vs, r, ob, es, ep, k _ _ (.inl rfl) e, c⟩
  | dT kvs =>
    obtain ⟨z, y, xs, r, ob, es, ep, e, c⟩ := x
    exact ⟨z, y, xs, Paired.mapP r fun p q z => ⟨z.1, ht _ _ z.2.1, z.2.2⟩, ob, es, ep, k _ _ (.inl rfl) e, c⟩
  | set S n => obtain ⟨ob, es, ep, t, e, c⟩ := x; exact ⟨ob, es, ep, t, k _ _ (.inl rfl) e, c⟩
  | ins C dx fs =>
    obtain ⟨d, z, ne, e, mA, ⟨od, es, ep, e2, c⟩, r⟩ := x
    exact ⟨ho _ d, z, ne, k _ _ (.inl rfl) e, mA, ⟨od, es, ep, k _ _ (.inr d) e2, c⟩, r⟩
  | own y => obtain ⟨ob, e⟩ := x; exact ⟨ob, k _ _ (.inl rfl) e⟩
  | xd fs => obtain ⟨mA, ⟨od, es, ep, e, c⟩, r⟩ := x; exact ⟨mA, ⟨od, es, ep, k _ _ (.inl rfl) e, c⟩, r⟩
  | rng lo hi => obtain ⟨t, u, v, e⟩ := x; exact ⟨t, u, v, k _ _ (.inl rfl) e⟩
  | frz ob u ih => obtain ⟨e, q⟩ := x; exact ⟨k _ _ (.inl rfl) e, ih q⟩
  | tbl ps =>
    have e : h.get? a = some { cls := .none, data := .fields ps } := x
    show h'.get? a = some { cls := .none, data := .fields ps }
    exact k a _ (.inl rfl) e
  | met f y =>
    have e : h.get? a = some (PySem.W.methodObj (.ref f) (.ref y)) := x
    show h'.get? a = some (PySem.W.methodObj (.ref f) (.ref y))
    exact k a _ (.inl rfl) e
  | ext φ => obtain ⟨p, ⟨o, e⟩, st⟩ := x; exact ⟨st _ _ p fun o q => k _ _ (.inl rfl) q, ⟨o, k _ _ (.inl rfl) e⟩, st⟩
theorem HOk.lt (x : HOk P w H h) (e : H a = some o) : a < h.objs.size := (x a o e).lt
theorem HOk.fresh (x : HOk P w H h) (e : h.objs.size ≤ a) : H a = none := by
  cases q : H a with
  | none => rfl
  | some u => exact absurd (Nat.lt_of_lt_of_le (x.lt q) e) (Nat.lt_irrefl _)
theorem HOk.kept (x : HOk P w H h) (k : ∀ b u, h.get? b = some u → h'.get? b = some u) : HOk P w H h' := fun a o e =>
  (x a o e).stay (fun b u _ q => k b u q) (fun _ q => q) fun _ _ q => q
theorem HOk.laid (x : HOk P w H h) (k : ∀ b u, h.get? b = some u → h'.get? b = some u) (hp : h.objs.size ≤ a) (new : ObjOk P w (upd H a o) h' a o) : HOk P w (upd H a o) h' := fun b u e => by
  have hn := x.fresh hp
  by_cases hb : b = a
  · subst hb; rw [upd_same] at e; cases e; exact new
  · rw [upd_ne hb] at e
    exact (x b u e).stay (fun c v _ q => k c v q) (fun c q => by rw [upd_ne (ne_of_none q hn)]; exact q) fun c xs q => by rw [upd_ne (ne_of_none q hn)]; exact q
end
def Rd (H : Hp) (a : Addr) (u : HO) : Prop := H a = some u ∨ ∃ o, H a = some (.frz o u)
theorem Rd.ok {P : Program} {w : World} {H : Hp} {h : Heap} {a : Addr} {u : HO} (r : Rd H a u) (x : HOk P w H h) : ObjOk P w H h a u := by
  rcases r with r | ⟨o, r⟩
  · exact x a u r
  · obtain ⟨_, q⟩ := x a _ r
    exact q
def Mut : Option HO → Prop
  | some (.lst _) => True
  | some (.dK _) => True
  | some (.dT _) => True
  | some (.set _ _) => True
  | some (.ins _ _ _) => True
  | some (.ext _) => True
  | _ => False
section
variable {P : Program} {w : World} {H : Hp} {h h' : Heap} {x e : Addr} {o' : HO}
theorem HOk.write (ok : HOk P w H h) (mu : Mut (H x)) (he : e = x ∨ H e = some (.own x)) (k : ∀ b u, b ≠ e → h.get? b = some u → h'.get? b = some u) (heo : ∃ u, h'.get? e = some u)
    (new : ObjOk P w (upd H x o') h' x o') : HOk P w (upd H x o') h' := fun b u q => by
  have nown : ∀ c y, H c = some (.own y) → c ≠ x := fun c y r z => by subst z; rw [r] at mu; exact mu
  have ntup : ∀ c xs, H c = some (.tup xs) → c ≠ x := fun c xs r z => by subst z; rw [r] at mu; exact mu
  by_cases hb : b = x
  · subst hb; rw [upd_same] at q; cases q; exact new
  · rw [upd_ne hb] at q
    by_cases hbe : b = e
    · have q' : H b = some (.own x) := by
        rcases he with z | z
        · exact absurd (hbe.trans z) hb
        · rw [hbe]; exact z
      rw [q] at q'; cases q'
      obtain ⟨v, hv⟩ := heo
      exact ⟨v, by rw [hbe]; exact hv⟩
    · refine (ok b u q).stay (fun c v hc r => k c v ?_ r) (fun c r => by rw [upd_ne (nown c b r)]; exact r) fun c xs r => by rw [upd_ne (ntup c xs r)]; exact r
      rcases hc with rfl | hc
      · exact hbe
      · rintro rfl
        rcases he with z | z
        · exact nown c b hc z
        · rw [hc] at z; cases z; exact hb rfl
end
structure Un (fs ex : List Addr) (H H' : Hp) (h h' : Heap) : Prop where
  keep : ∀ b o, h.get? b = some o → H b = none → b ∉ fs → b ∉ ex → h'.get? b = some o
  slot : ∀ b o, h.get? b = some o → H b = none → b ∈ fs → b ∉ ex → ∃ sl, h'.get? b = some { o with slots := sl }
  free : ∀ b o, h.get? b = some o → H b = none → b ∉ ex → H' b = none
  there : ∀ b o, h.get? b = some o → b ∉ ex → ∃ o', h'.get? b = some o'
  tups : ∀ b xs, H b = some (.tup xs) → H' b = some (.tup xs)
  frzs : ∀ b o u, H b = some (.frz o u) → H' b = some (.frz o u)
  tbls : ∀ b ps, H b = some (.tbl ps) → ∃ more, H' b = some (.tbl (ps ++ more))
section
variable {fs fs' ex ex' : List Addr} {H H1 H2 : Hp} {h h1 h2 h' : Heap} {a x e : Addr} {o : HO}
theorem Un.any (u : Un fs ex H H1 h h1) {b : Addr} {ob : Obj} (q : h.get? b = some ob) (n : H b = none) (hx : b ∉ ex) : ∃ sl, h1.get? b = some { ob with slots := sl } := by
  by_cases hb : b ∈ fs
  · exact u.slot b ob q n hb hx
  · exact ⟨ob.slots, u.keep b ob q n hb hx⟩
theorem Un.kept (k : ∀ b u, h.get? b = some u → h'.get? b = some u) : Un fs ex H H h h' :=
  ⟨fun b ob q _ _ _ => k b ob q, fun b ob q _ _ _ => ⟨ob.slots, k b ob q⟩, fun _ _ _ n _ => n, fun b ob q _ => ⟨ob, k b ob q⟩, fun _ _ q => q, fun _ _ _ q => q, fun _ ps q => ⟨#[], by rw [q]; simp⟩⟩
theorem Un.refl : Un fs ex H H h h := Un.kept fun _ _ q => q
theorem Un.laid (k : ∀ b u, h.get? b = some u → h'.get? b = some u) (hp : h.objs.size ≤ a) (hn : H a = none) : Un fs ex H (upd H a o) h h' where
  keep := fun b u q _ _ _ => k b u q
  slot := fun b u q _ _ _ => ⟨u.slots, k b u q⟩
  free := fun b u q n _ => by rw [upd_ne (Nat.ne_of_lt (Nat.lt_of_lt_of_le (Heap.lt_size q) hp))]; exact n
  there := fun b u q _ => ⟨u, k b u q⟩
  tups := fun b xs q => by rw [upd_ne (ne_of_none q hn)]; exact q
  frzs := fun b u xs q => by rw [upd_ne (ne_of_none q hn)]; exact q
  tbls := fun b ps q => ⟨#[], by rw [upd_ne (ne_of_none q hn), q]; simp⟩
theorem Un.write (mu : Mut (H x)) (he : e = x ∨ H e = some (.own x)) (k : ∀ b u, b ≠ e → h.get? b = some u → h'.get? b = some u) (heo : ∃ u, h'.get? e = some u) : Un fs ex H (upd H x o) h h' := by
  have hx : ∀ b, H b = none → b ≠ x := fun b n z => by subst z; rw [n] at mu; exact mu
  have hb : ∀ b, H b = none → b ≠ e := fun b n z => by
    subst z
    rcases he with r | r
    · exact hx b n r
    · rw [n] at r; cases r
  have hm : ∀ b u, H b = some u → ¬ Mut (some u) → b ≠ x := fun b u q nm z => by subst z; rw [q] at mu; exact nm mu
  refine ⟨fun b u q n _ _ => k b u (hb b n) q, fun b u q n _ _ => ⟨u.slots, k b u (hb b n) q⟩, fun b u q n _ => by rw [upd_ne (hx b n)]; exact n, fun b u q _ => ?_,
    fun b xs q => by rw [upd_ne (hm b _ q fun z => z)]; exact q, fun b u xs q => by rw [upd_ne (hm b _ q fun z => z)]; exact q, fun b ps q => ⟨#[], by rw [upd_ne (hm b _ q fun z => z), q]; simp⟩⟩
  by_cases hbe : b = e
  · subst hbe; exact heo
  · exact ⟨u, k b u hbe q⟩
end
def trk (h : Heap) (H : Hp) : List Addr := (List.range h.objs.size).filter fun a => (H a).isSome
def hidT (h : Heap) (H : Hp) : Heap := PySem.W.hideAll h (trk h H)
theorem hidT_size (h : Heap) (H : Hp) : (hidT h H).objs.size = h.objs.size := PySem.W.hideAll_size _ _
theorem hidT_get {h : Heap} {H : Hp} {b : Addr} {o : Obj} (e : h.get? b = some o) (n : H b = none) : (hidT h H).get? b = some o :=
  PySem.W.hideAll_get _ e fun hm => by
    have q : (H b).isSome = true := (List.mem_filter.mp hm).2
    rw [n] at q; simp at q
theorem of_hidT {h : Heap} {H : Hp} {b : Addr} {o : Obj} (e : (hidT h H).get? b = some o) : h.get? b = some o ∧ H b = none := by
  have e' : h.get? b = some o := PySem.W.of_hideAll (trk h H) e
  refine ⟨e', ?_⟩
  cases q : H b with
  | none => rfl
  | some x =>
    have hm : b ∈ trk h H := List.mem_filter.mpr ⟨List.mem_range.mpr (Heap.lt_size e'), by simp [q]⟩
    have z : (hidT h H).get? b = none := PySem.W.hideAll_none (trk h H) hm
    rw [z] at e; cases e
end L2
namespace L2
open PySem PySem.Spec PyProof.Rows
structure Mod (K : PySem.W.Frag) (mg : Str → Option Value) (base : Heap) : Prop where
  kin : K.In base
  glob : base.Ns mainGlobals mg
  blt : ∃ mb, base.Ns builtinsNs mb ∧ ∀ x : Str, x ≠ "__name__" → mb x = bootBuiltins x
  nolimit : base.NoLimit
structure Cx where
  prog : Program
  w : World
  K : PySem.W.Frag
  mg : Str → Option Value
  base : Heap
  A : Around
  N : List Str
  s₀ : Shared
  H₀ : Hp
  env : Env
  outer : List Env
  stack : List Env
  ex : List Addr
  fn : Str → Bool
  calm : Bool
  pn : List (Addr × Obj)
  xe : Value → Shared → Prop
def frs (l : List Env) : List Addr := l.filterMap (·.frame)
abbrev Cx.fs (X : Cx) : List Addr := frs X.outer
def Vis (sc : Scope) (x : Str) : Prop := sc.names.lookup x = some .local ∨ sc.names.lookup x = some .cell ∨ sc.names.lookup x = some .free
def Loc (sc : Scope) (x : Str) : Prop := sc.names.lookup x = some .local ∨ sc.names.lookup x = some .cell
def Look (env : Env) (h : Heap) (m : Str → Option Value) (x : Str) (u : Value) : Prop :=
  (env.kindOf x = some .local ∧ m x = some u) ∨ ((env.kindOf x = some .cell ∨ env.kindOf x = some .free) ∧ ∃ c, env.cells.lookup x = some c ∧ h.IsCell c (some u))
structure Cx.Ok (X : Cx) : Prop where
  mod : Mod X.K X.mg X.base
  kind : X.env.scope.kind = .function
  glob : X.env.globals = mainGlobals
  blt : X.env.builtins = builtinsNs
  above : X.s₀.heap.objs.size ≤ X.env.locals
  inj : ∀ x y c, X.env.cells.lookup x = some c → X.env.cells.lookup y = some c → x = y
  has : ∀ x, (X.env.kindOf x = some .cell ∨ X.env.kindOf x = some .free) → ∃ c, X.env.cells.lookup x = some c
  cab : ∀ x c, X.fn x = true → X.env.cells.lookup x = some c → X.s₀.heap.objs.size ≤ c
  hd : X.calm = true → X.A.handled = none
  frames : X.A.frames = some X.stack
  stk : X.stack = X.outer ∨ (X.stack = X.env :: X.outer ∧ X.env.frame = some X.env.locals)
  exf : ∀ b ∈ X.ex, b ≠ X.env.locals ∧ ∀ x c, X.env.cells.lookup x = some c → c ≠ b
  bs : ∀ b o, X.base.get? b = some o → X.s₀.heap.get? b = some o ∧ X.H₀ b = none
  bsz : X.base.objs.size ≤ X.s₀.heap.objs.size
  noex : ∀ b o, X.base.get? b = some o → b ∉ X.ex
  exfs : ∀ b ∈ X.ex, b ∉ X.fs
  funs : X.s₀.heap.FunFrames X.base X.outer
  frf : ∀ b ∈ X.fs, X.H₀ b = none
structure Inv (X : Cx) (pins : List (Addr × Obj)) (σ : List (Option V)) (H : Hp) (s : Shared) : Prop where
  ok : X.Ok
  os : s.os = X.s₀.os
  bare : AllBare s.gens
  base : Un X.fs X.ex X.H₀ H X.s₀.heap s.heap
  loc : ∃ m, s.heap.Ns X.env.locals m ∧ ∀ (i : Nat) (x : Str) (v : V), X.N[i]? = some x → σ[i]? = some (some v) → Vis X.env.scope x → ∃ u, RelV v u ∧ Look X.env s.heap m x u
  cell : ∀ x c, X.env.cells.lookup x = some c → ∃ v, s.heap.IsCell c v
  free : H X.env.locals = none
  freeC : ∀ x c, X.env.cells.lookup x = some c → H c = none
  pin : ∀ p ∈ X.pn ++ pins, s.heap.get? p.1 = some p.2 ∧ H p.1 = none ∧ p.1 ≠ X.env.locals ∧ p.1 ∉ X.fs ∧ ∀ v, p.2.data ≠ .cell v
  hok : HOk X.prog X.w H s.heap
  len : σ.length = X.N.length
section
variable {X : Cx} {pins : List (Addr × Obj)} {σ : List (Option V)} {H H' : Hp} {s : Shared} {h' : Heap}
theorem Cx.Ok.nofr (ok : X.Ok) {b : Addr} {o : Obj} (e : X.base.get? b = some o) : b ∉ X.fs := fun hb => by
  have := (ok.funs.mem hb).1
  rw [e] at this; cases this
theorem Inv.bs (I : Inv X pins σ H s) : ∀ b o, X.base.get? b = some o → s.heap.get? b = some o ∧ H b = none := fun b o e =>
  ⟨I.base.keep b o (I.ok.bs b o e).1 (I.ok.bs b o e).2 (I.ok.nofr e) (I.ok.noex b o e), I.base.free b o (I.ok.bs b o e).1 (I.ok.bs b o e).2 (I.ok.noex b o e)⟩
theorem Inv.bk (I : Inv X pins σ H s) : ∀ b o, X.base.get? b = some o → s.heap.get? b = some o := fun b o e => (I.bs b o e).1
theorem Inv.mod (I : Inv X pins σ H s) : Mod X.K X.mg X.base := I.ok.mod
theorem Inv.kIn (I : Inv X pins σ H s) : X.K.In s.heap := I.ok.mod.kin.keeps I.bk
theorem Inv.lt (I : Inv X pins σ H s) : X.env.locals < s.heap.objs.size := let ⟨_, hn, _⟩ := I.loc; hn.lt
theorem Inv.sz (I : Inv X pins σ H s) : X.s₀.heap.objs.size ≤ s.heap.objs.size := Nat.le_trans I.ok.above (Nat.le_of_lt I.lt)
theorem Inv.nofs (I : Inv X pins σ H s) {a : Addr} (h : s.heap.objs.size ≤ a) : a ∉ X.fs := fun hb => by
  obtain ⟨_, o, ho, _⟩ := I.ok.funs.mem hb
  exact absurd (Nat.lt_of_lt_of_le (Heap.lt_size ho) (Nat.le_trans I.sz h)) (Nat.lt_irrefl _)
theorem Inv.cne (I : Inv X pins σ H s) : ∀ x c, X.env.cells.lookup x = some c → c ≠ X.env.locals := fun x c e z => by
  obtain ⟨v, o, ho, hd⟩ := I.cell x c e
  obtain ⟨m, ⟨o', es, ep, ho', hd', _⟩, _⟩ := I.loc
  rw [z, ho'] at ho; cases ho; rw [hd'] at hd; cases hd
theorem Inv.funs (I : Inv X pins σ H s) : s.heap.FunFrames X.base X.outer := by
  have all : ∀ (l : List Env), (∀ b ∈ frs l, b ∈ X.fs) → X.s₀.heap.FunFrames X.base l → s.heap.FunFrames X.base l := by
    intro l
    induction l with
    | nil => intro _ _; trivial
    | cons env r ih =>
      intro hs hl
      obtain ⟨hk, ⟨L, o, hf, hn, ho, hd⟩, hr⟩ := hl
      have hL : L ∈ X.fs := hs L (by unfold frs; rw [List.filterMap_cons, hf]; exact List.mem_cons_self)
      obtain ⟨sl, e⟩ := I.base.slot L o ho (I.ok.frf L hL) hL fun z => I.ok.exfs L z hL
      exact ⟨hk, ⟨L, _, hf, hn, e, hd⟩, ih (fun b hb => hs b (by unfold frs; rw [List.filterMap_cons, hf]; exact List.mem_cons_of_mem _ hb)) hr⟩
  exact all X.outer (fun _ hb => hb) I.ok.funs
theorem Inv.stack (I : Inv X pins σ H s) : s.heap.FunFrames X.base X.stack := by
  rcases I.ok.stk with e | ⟨e, hf⟩
  · rw [e]; exact I.funs
  · rw [e]
    obtain ⟨m, hn, _⟩ := I.loc
    refine .cons (by rw [I.ok.kind]; decide) hf hn ?_ I.funs
    exact Heap.get?_none_of_le (Nat.le_trans I.ok.bsz I.ok.above)
theorem Inv.stkSub (I : Inv X pins σ H s) : ∀ b ∈ frs X.stack, b ∈ X.env.locals :: X.fs := fun b hb => by
  rcases I.ok.stk with e | ⟨e, hf⟩
  · rw [e] at hb; exact List.mem_cons_of_mem _ hb
  · rw [e] at hb
    unfold frs at hb
    rw [List.filterMap_cons, hf] at hb
    exact hb
theorem Inv.stkFree (I : Inv X pins σ H s) : ∀ b ∈ frs X.stack, H b = none := fun b hb => by
  rcases List.mem_cons.mp (I.stkSub b hb) with e | hb
  · rw [e]; exact I.free
  · obtain ⟨_, o, ho, _⟩ := I.ok.funs.mem hb
    exact I.base.free b o ho (I.ok.frf b hb) fun z => I.ok.exfs b z hb
theorem Inv.step {g' : Array GenState} {t' : Nat} {d' : Drawn} {ch : List Addr} (I : Inv X pins σ H s)
    (hch : ∀ b ∈ ch, (b ∈ X.ex ∨ X.s₀.heap.objs.size ≤ b) ∧ b ≠ X.env.locals ∧ (∀ x c, X.env.cells.lookup x = some c → c ≠ b) ∧ ∀ p ∈ X.pn ++ pins, p.1 ≠ b)
    (keep : ∀ b o, b ≠ X.env.locals → b ∉ X.fs → b ∉ ch → s.heap.get? b = some o → H b = none → h'.get? b = some o)
    (slot : ∀ b o, b ≠ X.env.locals → b ∈ X.fs → b ∉ ch → s.heap.get? b = some o → H b = none → ∃ sl, h'.get? b = some { o with slots := sl }) (free : ∀ b o, b ∉ ch → s.heap.get? b = some o → H b = none → H' b = none)
    (there : ∀ b o, b ∉ ch → s.heap.get? b = some o → ∃ o', h'.get? b = some o')
    (tups : ∀ b xs, H b = some (.tup xs) → H' b = some (.tup xs)) (frzs : ∀ b o u, H b = some (.frz o u) → H' b = some (.frz o u)) (tbls : ∀ b ps, H b = some (.tbl ps) → ∃ more, H' b = some (.tbl (ps ++ more)))
    (ns : ∀ m, s.heap.Ns X.env.locals m → h'.Ns X.env.locals m) (hok : HOk X.prog X.w H' h') (hg : AllBare g') :
    Inv X pins σ H' { s with heap := h', gens := g', drawn := d', toks := t' } := by
  have neL : ∀ b o, X.s₀.heap.get? b = some o → b ≠ X.env.locals := fun b o e => Nat.ne_of_lt (Nat.lt_of_lt_of_le (Heap.lt_size e) I.ok.above)
  have neC : ∀ b o, X.s₀.heap.get? b = some o → b ∉ X.ex → b ∉ ch := fun b o e hx hb => by
    rcases (hch b hb).1 with z | z
    · exact hx z
    · exact absurd (Nat.lt_of_lt_of_le (Heap.lt_size e) z) (Nat.lt_irrefl _)
  have cellK : ∀ x c, X.env.cells.lookup x = some c → ∀ v, s.heap.IsCell c v → h'.IsCell c v := fun x c e v ⟨o, ho, hd⟩ => by
    have nch : c ∉ ch := fun z => (hch c z).2.2.1 x c e rfl
    by_cases hc : c ∈ X.fs
    · obtain ⟨sl, q⟩ := slot c o (I.cne x c e) hc nch ho (I.freeC x c e)
      exact ⟨_, q, hd⟩
    · exact ⟨o, keep c o (I.cne x c e) hc nch ho (I.freeC x c e), hd⟩
  refine ⟨I.ok, I.os, hg, ⟨fun b o e n hb hx => ?_, fun b o e n hb hx => ?_, fun b o e n hx => ?_, fun b o e hx => ?_, fun b xs e => tups b xs (I.base.tups b xs e), fun b o xs e => frzs b o xs (I.base.frzs b o xs e), fun b ps e => ?_⟩, ?_, fun x c e => ?_, ?_, fun x c e => ?_, fun p hp => ?_, hok, I.len⟩
  · exact keep b o (neL b o e) hb (neC b o e hx) (I.base.keep b o e n hb hx) (I.base.free b o e n hx)
  · obtain ⟨sl, e1⟩ := I.base.slot b o e n hb hx
    obtain ⟨sl', e2⟩ := slot b _ (neL b o e) hb (neC b o e hx) e1 (I.base.free b o e n hx)
    exact ⟨sl', e2⟩
  · obtain ⟨o', e1⟩ := I.base.there b o e hx
    exact free b o' (neC b o e hx) e1 (I.base.free b o e n hx)
  · obtain ⟨o', e1⟩ := I.base.there b o e hx
    exact there b o' (neC b o e hx) e1
  · obtain ⟨m1, e1⟩ := I.base.tbls b ps e
    obtain ⟨m2, e2⟩ := tbls b _ e1
    exact ⟨m1 ++ m2, by rw [e2, Array.append_assoc]⟩
  · obtain ⟨m, hn, hl⟩ := I.loc
    refine ⟨m, ns m hn, fun i x v e1 e2 e3 => ?_⟩
    obtain ⟨u, r, l⟩ := hl i x v e1 e2 e3
    refine ⟨u, r, ?_⟩
    rcases l with l | ⟨k, c, e, z⟩
    · exact .inl l
    · exact .inr ⟨k, c, e, cellK x c e _ z⟩
  · obtain ⟨v, z⟩ := I.cell x c e
    exact ⟨v, cellK x c e v z⟩
  · obtain ⟨m, ⟨o, _, _, ho, _⟩, _⟩ := I.loc
    exact free _ o (fun z => (hch _ z).2.1 rfl) ho I.free
  · obtain ⟨v, o, ho, hd⟩ := I.cell x c e
    exact free c o (fun z => (hch c z).2.2.1 x c e rfl) ho (I.freeC x c e)
  · obtain ⟨e, n, ne, nf, d⟩ := I.pin p hp
    have nch : p.1 ∉ ch := fun z => (hch p.1 z).2.2.2 p hp rfl
    exact ⟨keep p.1 p.2 ne nf nch e n, free p.1 p.2 nch e n, ne, nf, d⟩
theorem Inv.un {t' : Nat} (I : Inv X pins σ H s) (u : Un X.fs [] H H' s.heap h') (hok : HOk X.prog X.w H' h') : Inv X pins σ H' { s with heap := h', toks := t' } := by
  obtain ⟨m, ⟨o, es, ep, ho, r⟩, _⟩ := id I.loc
  obtain ⟨sl, hL⟩ := u.any ho I.free (by simp)
  exact I.step (g' := s.gens) (d' := s.drawn) (ch := []) (fun _ z => nomatch z) (fun b o _ hb _ e n => u.keep b o e n hb (by simp)) (fun b o _ hb _ e n => u.slot b o e n hb (by simp)) (fun b o _ e n => u.free b o e n (by simp)) (fun b o _ e => u.there b o e (by simp)) u.tups u.frzs u.tbls (fun m' hm => by
    obtain ⟨o', es', ep', ho', r'⟩ := hm
    rw [ho] at ho'; cases ho'
    exact ⟨_, es', ep', hL, r'⟩) hok I.bare
theorem Inv.call {g' : Array GenState} {t' : Nat} {d' : Drawn} {ch : List Addr} (I : Inv X pins σ H s) (u : Un (frs X.stack) ch H H' s.heap h') (hok : HOk X.prog X.w H' h') (hg : AllBare g')
    (hch : ∀ b ∈ ch, (b ∈ X.ex ∨ X.s₀.heap.objs.size ≤ b) ∧ b ≠ X.env.locals ∧ (∀ x c, X.env.cells.lookup x = some c → c ≠ b) ∧ ∀ p ∈ X.pn ++ pins, p.1 ≠ b) :
    Inv X pins σ H' { s with heap := h', gens := g', drawn := d', toks := t' } := by
  obtain ⟨m, ⟨o, es, ep, ho, r⟩, _⟩ := id I.loc
  obtain ⟨sl, hL⟩ := u.any ho I.free fun z => (hch _ z).2.1 rfl
  exact I.step (ch := ch) hch (fun b o hL hb hc e n => u.keep b o e n (fun z => (List.mem_cons.mp (I.stkSub b z)).elim hL hb) hc) (fun b o _ _ hc e n => u.any e n hc) (fun b o hc e n => u.free b o e n hc) (fun b o hc e => u.there b o e hc) u.tups u.frzs u.tbls (fun m' hm => by
    obtain ⟨o', es', ep', ho', r'⟩ := hm
    rw [ho] at ho'; cases ho'
    exact ⟨_, es', ep', hL, r'⟩) hok hg
theorem Inv.turned {t' : Nat} {it : Addr} (I : Inv X pins σ H s) (k : ∀ b o, b ≠ it → s.heap.get? b = some o → h'.get? b = some o) (hn : H it = none) (hL : it ≠ X.env.locals)
    (h1 : it ∈ X.ex ∨ X.s₀.heap.objs.size ≤ it) (h2 : ∀ x c, X.env.cells.lookup x = some c → c ≠ it) (h3 : ∀ p ∈ X.pn ++ pins, p.1 ≠ it) : Inv X pins σ H { s with heap := h', toks := t' } := by
  have nit : ∀ b u, H b = some u → b ≠ it := fun b u e z => by rw [z, hn] at e; cases e
  refine I.step (g' := s.gens) (d' := s.drawn) (ch := [it]) (fun b hb => ?_) (fun b o _ _ hc e _ => k b o (fun z => hc (by simp [z])) e) (fun b o _ _ hc e _ => ⟨o.slots, k b o (fun z => hc (by simp [z])) e⟩) (fun _ _ _ _ n => n)
    (fun b o hc e => ⟨o, k b o (fun z => hc (by simp [z])) e⟩) (fun _ _ e => e) (fun _ _ _ e => e) (fun b ps e => ⟨#[], by rw [e]; simp⟩) (fun m hm => ?_) (fun b u e => ?_) I.bare
  · have e : b = it := by simpa using hb
    subst e
    exact ⟨h1, hL, h2, h3⟩
  · obtain ⟨o, es, ep, ho, r⟩ := hm
    exact ⟨o, es, ep, k _ o (Ne.symm hL) ho, r⟩
  · refine (I.hok b u e).stay (fun c v hc q => k c v ?_ q) (fun _ q => q) fun _ _ q => q
    rcases hc with z | z
    · rw [z]; exact nit b u e
    · exact nit c _ z
theorem Inv.tok (I : Inv X pins σ H s) (t : Nat) : Inv X pins σ H { s with toks := t } := I.un (h' := s.heap) (t' := t) Un.refl I.hok
theorem Inv.kept {t' : Nat} (I : Inv X pins σ H s) (k : ∀ b u, s.heap.get? b = some u → h'.get? b = some u) : Inv X pins σ H { s with heap := h', toks := t' } := I.un (Un.kept k) (I.hok.kept k)
theorem Inv.laid {a : Addr} {o : HO} {t' : Nat} (I : Inv X pins σ H s) (k : ∀ b u, s.heap.get? b = some u → h'.get? b = some u) (hp : s.heap.objs.size ≤ a) (new : ObjOk X.prog X.w (upd H a o) h' a o) :
    Inv X pins σ (upd H a o) { s with heap := h', toks := t' } := I.un (Un.laid k hp (I.hok.fresh hp)) (I.hok.laid k hp new)
theorem Inv.write {x e : Addr} {o : HO} {t' : Nat} (I : Inv X pins σ H s) (mu : Mut (H x)) (he : e = x ∨ H e = some (.own x)) (k : ∀ b u, b ≠ e → s.heap.get? b = some u → h'.get? b = some u) (heo : ∃ u, h'.get? e = some u)
    (new : ObjOk X.prog X.w (upd H x o) h' x o) : Inv X pins σ (upd H x o) { s with heap := h', toks := t' } := I.un (Un.write mu he k heo) (I.hok.write mu he k heo new)
theorem Inv.pins_of {pins' : List (Addr × Obj)} (I : Inv X pins σ H s) (h : ∀ p ∈ pins', s.heap.get? p.1 = some p.2 ∧ H p.1 = none ∧ p.1 ≠ X.env.locals ∧ p.1 ∉ X.fs ∧ ∀ v, p.2.data ≠ .cell v) : Inv X pins' σ H s :=
  ⟨I.ok, I.os, I.bare, I.base, I.loc, I.cell, I.free, I.freeC, fun p hp => (List.mem_append.mp hp).elim (fun z => I.pin p (List.mem_append_left _ z)) (h p), I.hok, I.len⟩
theorem nodup_ix {N : List Str} (hN : N.Nodup) {i j : Nat} {x : Str} (a : N[i]? = some x) (b : N[j]? = some x) : i = j := by
  obtain ⟨h1, e1⟩ := List.getElem?_eq_some_iff.mp a
  obtain ⟨h2, e2⟩ := List.getElem?_eq_some_iff.mp b
  exact (List.getElem_inj hN).mp (e1.trans e2.symm)
theorem store_ok2 {M : Model} {A : Around} {E : Value → Shared → Prop} {i : Nat} {x : Str} {v : V} {u : Value} {Q : Unit → Shared → Prop} (I : Inv X pins σ H s) (hN : X.N.Nodup) (hi : X.N[i]? = some x) (hx : Loc X.env.scope x) (r : RelV v u)
    (h : ∀ s', Inv X pins (σ.set i (some v)) H s' → (∃ a, Heap.SameBut a s.heap s'.heap ∧ (a = X.env.locals ∨ X.env.cells.lookup x = some a)) → Q () s') (hf : X.fn x = true ∨ X.env.scope.names.lookup x = some .local := by first | exact .inl rfl | exact .inr rfl | assumption) : wpAny M A (storeName X.env x u) Q E s := by
  obtain ⟨m, hn, hl⟩ := id I.loc
  have hcls : (X.env.scope.kind == .class || (X.env.scope.kind == .module && X.env.locals != X.env.globals)) = false := by rw [I.ok.kind]; rfl
  have hiσ : i < σ.length := by rw [I.len]; exact (List.getElem?_eq_some_iff.mp hi).1
  have cne := I.cne
  have tracked : ∀ {a : Addr} {h' : Heap}, (∃ o, s.heap.get? a = some o ∧ H a = none) → Heap.SameBut a s.heap h' → HOk X.prog X.w H h' := fun {a h'} ha hs b ob e => by
    obtain ⟨_, _, hfree⟩ := ha
    refine (I.hok b ob e).stay (fun c w' hc q => (hs.2 c ?_).trans q) (fun _ q => q) fun _ _ q => q
    rintro rfl
    rcases hc with rfl | hc
    · rw [hfree] at e; cases e
    · rw [hfree] at hc; cases hc
  rcases hx with hk | hk
  · refine wpAny_storeName_local hk hn (fun h' hn' hs => ?_) hcls
    obtain ⟨oL, _, _, hoL, _⟩ := id hn
    refine h _ ⟨I.ok, I.os, I.bare, ⟨fun b o e n hb hx => ?_, fun b o e n hb hx => ?_, I.base.free, fun b o e hx => ?_, I.base.tups, I.base.frzs, I.base.tbls⟩, ⟨_, hn', fun j y v' e1 e2 e3 => ?_⟩, fun y c e => ?_, I.free, I.freeC, fun p hp => ?_, tracked ⟨oL, hoL, I.free⟩ hs, by simpa using I.len⟩ ⟨_, hs, .inl rfl⟩
    · exact (hs.2 b (Nat.ne_of_lt (Nat.lt_of_lt_of_le (Heap.lt_size e) I.ok.above))).trans (I.base.keep b o e n hb hx)
    · obtain ⟨sl, e1⟩ := I.base.slot b o e n hb hx
      exact ⟨sl, (hs.2 b (Nat.ne_of_lt (Nat.lt_of_lt_of_le (Heap.lt_size e) I.ok.above))).trans e1⟩
    · obtain ⟨o', e1⟩ := I.base.there b o e hx
      exact ⟨o', (hs.2 b (Nat.ne_of_lt (Nat.lt_of_lt_of_le (Heap.lt_size e) I.ok.above))).trans e1⟩
    · by_cases hj : j = i
      · subst hj
        rw [hi] at e1; cases e1
        rw [List.getElem?_set_self hiσ] at e2
        cases e2
        exact ⟨u, r, .inl ⟨hk, by simp⟩⟩
      · rw [List.getElem?_set_ne (Ne.symm hj)] at e2
        obtain ⟨u', r', q⟩ := hl j y v' e1 e2 e3
        refine ⟨u', r', ?_⟩
        rcases q with ⟨k, e⟩ | ⟨k, c, e, z⟩
        · refine .inl ⟨k, ?_⟩
          have : y ≠ x := fun e => hj (nodup_ix hN e1 (e ▸ hi))
          simp [this, e]
        · exact .inr ⟨k, c, e, z.sameBut hs (cne y c e)⟩
    · obtain ⟨w', z⟩ := I.cell y c e
      exact ⟨w', z.sameBut hs (cne y c e)⟩
    · obtain ⟨e, n, ne, nf, d⟩ := I.pin p hp
      exact ⟨(hs.2 p.1 ne).trans e, n, ne, nf, d⟩
  · have hfn : X.fn x = true := by
      rcases hf with z | z
      · exact z
      · rw [z] at hk; cases hk
    obtain ⟨c, hc⟩ := I.ok.has x (.inl hk)
    obtain ⟨w', z⟩ := I.cell x c hc
    refine wpAny_storeName_cell I.ok.kind hk hc z (fun h' hc' hs => ?_)
    obtain ⟨oc, hoc, hocd⟩ := id z
    refine h { s with heap := h' } ⟨I.ok, I.os, I.bare, ⟨fun b o e n hb hx => ?_, fun b o e n hb hx => ?_, I.base.free, fun b o e hx => ?_, I.base.tups, I.base.frzs, I.base.tbls⟩, ⟨m, hn.sameBut hs (Ne.symm (cne x c hc)), fun j y v' e1 e2 e3 => ?_⟩, fun y c' e => ?_, I.free, I.freeC, fun p hp => ?_, tracked ⟨oc, hoc, I.freeC x c hc⟩ hs, by simpa using I.len⟩ ⟨c, hs, .inr hc⟩
    · exact (hs.2 b (Nat.ne_of_lt (Nat.lt_of_lt_of_le (Heap.lt_size e) (I.ok.cab x c hfn hc)))).trans (I.base.keep b o e n hb hx)
    · obtain ⟨sl, e1⟩ := I.base.slot b o e n hb hx
      exact ⟨sl, (hs.2 b (Nat.ne_of_lt (Nat.lt_of_lt_of_le (Heap.lt_size e) (I.ok.cab x c hfn hc)))).trans e1⟩
    · obtain ⟨o', e1⟩ := I.base.there b o e hx
      exact ⟨o', (hs.2 b (Nat.ne_of_lt (Nat.lt_of_lt_of_le (Heap.lt_size e) (I.ok.cab x c hfn hc)))).trans e1⟩
    · by_cases hj : j = i
      · subst hj
        rw [hi] at e1; cases e1
        rw [List.getElem?_set_self hiσ] at e2
        cases e2
        exact ⟨u, r, .inr ⟨.inl hk, c, hc, hc'⟩⟩
      · rw [List.getElem?_set_ne (Ne.symm hj)] at e2
        obtain ⟨u', r', q⟩ := hl j y v' e1 e2 e3
        refine ⟨u', r', ?_⟩
        rcases q with q | ⟨k, c', e, z'⟩
        · exact .inl q
        · refine .inr ⟨k, c', e, z'.sameBut hs ?_⟩
          rintro rfl
          exact hj (nodup_ix hN e1 (I.ok.inj _ _ _ e hc ▸ hi))
    · by_cases hcc : c' = c
      · subst hcc; exact ⟨_, hc'⟩
      · obtain ⟨w2, z2⟩ := I.cell y c' e
        exact ⟨w2, z2.sameBut hs hcc⟩
    · obtain ⟨e, n, ne, nf, d⟩ := I.pin p hp
      refine ⟨(hs.2 p.1 ?_).trans e, n, ne, nf, d⟩
      intro q
      rw [q, hoc] at e
      have q' : oc = p.2 := Option.some.inj e
      exact d w' (by rw [← q']; exact hocd)
theorem store_ok {M : Model} {A : Around} {E : Value → Shared → Prop} {i : Nat} {x : Str} {v : V} {u : Value} {Q : Unit → Shared → Prop} (I : Inv X pins σ H s) (hN : X.N.Nodup) (hi : X.N[i]? = some x) (hx : Loc X.env.scope x) (r : RelV v u)
    (h : ∀ s', Inv X pins (σ.set i (some v)) H s' → Q () s') (hf : X.fn x = true ∨ X.env.scope.names.lookup x = some .local := by first | exact .inl rfl | exact .inr rfl | assumption) : wpAny M A (storeName X.env x u) Q E s :=
  store_ok2 I hN hi hx r (fun s' I' _ => h s' I') hf
theorem Inv.call' {s' : Shared} {ch : List Addr} (I : Inv X pins σ H s) (ho : s'.os = s.os) (u : Un (frs X.stack) ch H H' s.heap s'.heap) (hok : HOk X.prog X.w H' s'.heap) (hg : AllBare s'.gens)
    (hch : ∀ b ∈ ch, (b ∈ X.ex ∨ X.s₀.heap.objs.size ≤ b) ∧ b ≠ X.env.locals ∧ (∀ x c, X.env.cells.lookup x = some c → c ≠ b) ∧ ∀ p ∈ X.pn ++ pins, p.1 ≠ b) : Inv X pins σ H' s' := by
  obtain ⟨h', g', d', t', o'⟩ := s'
  have e : o' = s.os := ho
  subst e
  exact I.call (g' := g') (t' := t') (d' := d') u hok hg hch
end
abbrev XK := Value → Option Addr → Hp → Prop
abbrev St := List (Option V)
abbrev VK := V → Hp → Prop
abbrev TE := St → Hp → VK → Prop
abbrev TT := St → Hp → (Bool → Hp → Prop) → Prop
abbrev TA := St → Hp → (List V → Hp → Prop) → Prop
structure Ends where
  nx : St → Hp → Prop
  rt : VK
  bk : St → Hp → Prop := fun _ _ => False
  ct : St → Hp → Prop := fun _ _ => False
abbrev TS := Ends → St → Hp → Prop
def EP (X : Cx) (pins : List (Addr × Obj)) (σ : St) (Q : VK) (u : Value) (s' : Shared) : Prop := ∃ v H', Inv X pins σ H' s' ∧ RelV v u ∧ Q v H'
def TP (X : Cx) (pins : List (Addr × Obj)) (σ : St) (Q : Bool → Hp → Prop) (b : Bool) (s' : Shared) : Prop := ∃ H', Inv X pins σ H' s' ∧ Q b H'
def AP (X : Cx) (pins : List (Addr × Obj)) (σ : St) (Q : List V → Hp → Prop) (us : List Value) (s' : Shared) : Prop := ∃ vs H', Inv X pins σ H' s' ∧ Vals vs us ∧ Q vs H'
def SP (X : Cx) (pins : List (Addr × Obj)) (D : Ends) (f : Flow) (s' : Shared) : Prop :=
  match f with
  | .next => ∃ σ' H', Inv X pins σ' H' s' ∧ D.nx σ' H'
  | .brk => ∃ σ' H', Inv X pins σ' H' s' ∧ D.bk σ' H'
  | .cont => ∃ σ' H', Inv X pins σ' H' s' ∧ D.ct σ' H'
  | .ret u => ∃ v σ' H', Inv X pins σ' H' s' ∧ RelV v u ∧ D.rt v H'
def PE (X : Cx) (e : Expr) (t : TE) : Prop :=
  ∀ (pins : List (Addr × Obj)) (s : Shared) (σ : St) (H : Hp) (Q : VK), Inv X pins σ H s → t σ H Q → wpAny (model X.prog X.w) X.A (eval e X.env) (EP X pins σ Q) X.xe s
def PT (X : Cx) (e : Expr) (t : TT) : Prop :=
  ∀ (pins : List (Addr × Obj)) (s : Shared) (σ : St) (H : Hp) (Q : Bool → Hp → Prop), Inv X pins σ H s → t σ H Q → wpAny (model X.prog X.w) X.A (isTrue e X.env (eval e X.env)) (TP X pins σ Q) X.xe s
def PW (X : Cx) (e : Expr) (t : TT) : Prop :=
  ∀ (whole : Sem Value) (pins : List (Addr × Obj)) (s : Shared) (σ : St) (H : Hp) (Q : Bool → Hp → Prop), Inv X pins σ H s → t σ H Q → wpAny (model X.prog X.w) X.A (isTrue e X.env whole) (TP X pins σ Q) X.xe s
theorem PW.pt {X : Cx} {e : Expr} {t : TT} (h : PW X e t) : PT X e t := h _
def PA (X : Cx) (es : List Expr) (t : TA) : Prop :=
  ∀ (pos : Pos) (pins : List (Addr × Obj)) (s : Shared) (σ : St) (H : Hp) (Q : List V → Hp → Prop), Inv X pins σ H s → t σ H Q → wpAny (model X.prog X.w) X.A (spliced (backTo pos (starEach es X.env))) (AP X pins σ Q) X.xe s
def PS (X : Cx) (st : Stmt) (t : TS) : Prop :=
  ∀ (pins : List (Addr × Obj)) (s : Shared) (σ : St) (H : Hp) (D : Ends), Inv X pins σ H s → t D σ H → wpAny (model X.prog X.w) X.A (exec st X.env) (SP X pins D) X.xe s
def PSs (X : Cx) (st : List Stmt) (t : TS) : Prop :=
  ∀ (pins : List (Addr × Obj)) (s : Shared) (σ : St) (H : Hp) (D : Ends), Inv X pins σ H s → t D σ H → wpAny (model X.prog X.w) X.A (execs st X.env) (SP X pins D) X.xe s
theorem thn {α : Type} {t : Sem α} {Q Q' : α → Shared → Prop} {M : Model} {A : Around} {E : Value → Shared → Prop} {s : Shared} (h : wpAny M A t Q E s) (hQ : ∀ a s, Q a s → Q' a s) : wpAny M A t Q' E s := wpAny_mono h hQ fun _ _ x => x
end L2
namespace L2
open PySem PySem.Spec PyProof.Rows
section
variable {X : Cx}
def tVar (i : Nat) : TE := fun σ H Q => ∃ v, σ[i]? = some (some v) ∧ Q v H
def tC (v : V) : TE := fun _ H Q => Q v H
theorem pe_var {i : Nat} {x : Str} {pos : Pos} (hN : X.N[i]? = some x) (hv : Vis X.env.scope x) (hd : (x == ("__debug__" : Str)) = false := by decide) (hcd : (x == ("__classdict__" : Str)) = false := by decide) : PE X (.Name x pos) (tVar i) := by
  intro pins s σ H Q I h
  obtain ⟨v, e, h⟩ := h
  obtain ⟨m, hn, hl⟩ := I.loc
  obtain ⟨u, r, l⟩ := hl i x v hN e hv
  have fin : EP X pins σ Q u s := ⟨v, H, I, r, h⟩
  rcases l with ⟨hk, hm⟩ | ⟨hk, c, hc, hcell⟩
  · exact wpAny_Name (wpAny_loadName_local I.ok.kind hk hn hm fin) hd
  · rcases hk with hk | hk
    · exact wpAny_Name (wpAny_loadName_cell I.ok.kind hk hc hcell fin) hd
    · exact wpAny_Name (wpAny_loadName_free I.ok.kind hk hc hcell fin hcd) hd
theorem pe_int {i j pos} : PE X (.Constant (.int i) j pos) (tC (.int i)) := fun _ _ _ H _ I h => wpAny_Constant_int ⟨.int i, H, I.tok _, ⟨_, rfl⟩, h⟩
theorem pe_bl {b j pos} : PE X (.Constant (.bool b) j pos) (tC (.bl b)) := fun _ _ _ H _ I h => Constant_bool ⟨.bl b, H, I, rfl, h⟩
theorem pe_str {x j pos} : PE X (.Constant (.str x) j pos) (tC (.str x)) := fun _ _ _ H _ I h => Calls.Constant_str ⟨.str x, H, I.tok _, ⟨_, rfl⟩, h⟩
def Gl (X : Cx) (x : Str) : Prop := X.env.kindOf x = some .globalImplicit
theorem ld_glob {E : Value → Shared → Prop} {pins : List (Addr × Obj)} {s : Shared} {σ : St} {H : Hp} {x : Str} {u : Value} {pos : Pos} {Q : Value → Shared → Prop} (I : Inv X pins σ H s) (hg : Gl X x) (hm : X.mg x = some u) (h : Q u s)
    (hd : (x == ("__debug__" : Str)) = false := by decide) : wpAny (model X.prog X.w) X.A (eval (.Name x pos) X.env) Q E s :=
  Calls.Name_function_global I.ok.kind hg (Calls.loadGlobal_global (by rw [I.ok.glob]; exact I.mod.glob.keeps I.bk) hm h) hd
theorem ld_blt {E : Value → Shared → Prop} {pins : List (Addr × Obj)} {s : Shared} {σ : St} {H : Hp} {x : Str} {u : Value} {pos : Pos} {Q : Value → Shared → Prop} (I : Inv X pins σ H s) (hg : Gl X x) (hm : X.mg x = none) (hv : bootBuiltins x = some u) (h : Q u s)
    (hn : x ≠ "__name__" := by decide) (hd : (x == ("__debug__" : Str)) = false := by decide) : wpAny (model X.prog X.w) X.A (eval (.Name x pos) X.env) Q E s := by
  obtain ⟨mb, h1, h2⟩ := I.mod.blt
  exact Calls.Name_function_global I.ok.kind hg (Calls.loadGlobal_builtin (by rw [I.ok.glob]; exact I.mod.glob.keeps I.bk) hm (by rw [I.ok.blt]; exact h1.keeps I.bk) ((h2 x hn).trans hv) h) hd
theorem pe_glob {x : Str} {v : V} {u : Value} {pos : Pos} (hg : Gl X x) (hm : X.mg x = some u) (r : RelV v u) (hd : (x == ("__debug__" : Str)) = false := by decide) : PE X (.Name x pos) (tC v) :=
  fun _ _ _ H _ I h => ld_glob I hg hm ⟨v, H, I, r, h⟩ hd
theorem pe_bltn {x : Str} {v : V} {u : Value} {pos : Pos} (hg : Gl X x) (hm : X.mg x = none) (hv : bootBuiltins x = some u) (r : RelV v u) (hn : x ≠ "__name__" := by decide) (hd : (x == ("__debug__" : Str)) = false := by decide) : PE X (.Name x pos) (tC v) :=
  fun _ _ _ H _ I h => ld_blt I hg hm hv ⟨v, H, I, r, h⟩ hn hd
variable {a b : Expr} {ta tb : TE} {pos : Pos}
def tB (t : TE) : TT := fun σ H Q => t σ H fun x H1 => ∃ c, x = .bl c ∧ Q c H1
theorem pt_val {e : Expr} {t : TE} (h : PE X e t) (he : ∀ whole, isTrue e X.env whole = (do let v ← whole; standAt e.pos; holding [v] (truthy v)) := by intro _; rfl) : PT X e (tB t) := by
  intro pins s σ H Q I hw
  refine isTrue_plain (thn (h pins s σ H _ I hw) fun v s1 ⟨x, H1, I1, r1, q1⟩ => ?_) (he _)
  obtain ⟨d, rfl, q⟩ := q1
  cases r1
  exact wpAny_truthy_bool ⟨H1, I1, q⟩
variable {tA tB' : TT} {rest : List Expr}
def tAnd (t u : TT) : TT := fun σ H Q => t σ H fun c H1 => if c = true then u σ H1 Q else Q false H1
def tOr (t u : TT) : TT := fun σ H Q => t σ H fun c H1 => if c = true then Q true H1 else u σ H1 Q
def tNot (t : TT) : TT := fun σ H Q => t σ H fun c H1 => Q (!c) H1
theorem pw_and1 (ha : PT X a tA) : PW X (.BoolOp .And [a] pos) tA := by
  intro wh pins s σ H Q I h
  refine isTrue_and (thn (ha pins s σ H Q I h) fun c s1 e => ?_)
  cases c with
  | true => exact isTrue_and_nil e
  | false => exact e
theorem pw_or1 (ha : PT X a tA) : PW X (.BoolOp .Or [a] pos) tA := by
  intro wh pins s σ H Q I h
  refine isTrue_or (thn (ha pins s σ H Q I h) fun c s1 e => ?_)
  cases c with
  | false => exact isTrue_or_nil e
  | true => exact e
theorem pw_and (ha : PT X a tA) (hb : PW X (.BoolOp .And (b :: rest) pos) tB') : PW X (.BoolOp .And (a :: b :: rest) pos) (tAnd tA tB') := by
  intro wh pins s σ H Q I h
  refine isTrue_and (thn (ha pins s σ H _ I h) fun c s1 ⟨H1, I1, q1⟩ => ?_)
  cases c with
  | true => exact hb wh pins s1 σ H1 Q I1 q1
  | false => exact ⟨H1, I1, q1⟩
theorem pw_or (ha : PT X a tA) (hb : PW X (.BoolOp .Or (b :: rest) pos) tB') : PW X (.BoolOp .Or (a :: b :: rest) pos) (tOr tA tB') := by
  intro wh pins s σ H Q I h
  refine isTrue_or (thn (ha pins s σ H _ I h) fun c s1 ⟨H1, I1, q1⟩ => ?_)
  cases c with
  | true => exact ⟨H1, I1, q1⟩
  | false => exact hb wh pins s1 σ H1 Q I1 q1
theorem pt_not (ha : PT X a tA) : PT X (.UnaryOp .Not a pos) (tNot tA) := by
  intro pins s σ H Q I h
  exact isTrue_not (ha pins s σ H (fun c H1 => Q (!c) H1) I h)
def tAndV (ta tb : TE) : TE := fun σ H Q => ta σ H fun x H1 => ∃ c, x = .bl c ∧ if c = true then tb σ H1 Q else Q (.bl false) H1
def tNotV (ta : TE) : TE := fun σ H Q => ta σ H fun x H1 => ∃ c, x = .bl c ∧ Q (.bl (!c)) H1
theorem pe_one {op} {t : TE} (h : PE X a t) : PE X (.BoolOp op [a] pos) t := fun pins s σ H Q I hw => BoolOp_one (h pins s σ H Q I hw)
theorem pe_and (ha : PE X a ta) (hb : PE X (.BoolOp .And (b :: rest) pos) tb) : PE X (.BoolOp .And (a :: b :: rest) pos) (tAndV ta tb) := by
  intro pins s σ H Q I h
  refine BoolOp_and (thn (ha pins s σ H _ I h) fun v s1 ⟨x, H1, I1, r1, q1⟩ => ?_)
  obtain ⟨c, rfl, q1⟩ := q1
  cases r1
  refine wpAny_truthy_bool ?_
  cases c with
  | true => exact hb pins s1 σ H1 Q I1 q1
  | false => exact ⟨.bl false, H1, I1, rfl, q1⟩
theorem pe_not (ha : PE X a ta) : PE X (.UnaryOp .Not a pos) (tNotV ta) := by
  intro pins s σ H Q I h
  refine UnaryOp_ (thn (ha pins s σ H _ I h) fun v s1 ⟨x, H1, I1, r1, q1⟩ => ?_)
  obtain ⟨c, rfl, q1⟩ := q1
  cases r1
  exact not_of (wpAny_truthy_bool ⟨.bl (!c), H1, I1, rfl, q1⟩)
end
end L2
namespace L2
open PySem PySem.Spec PyProof.Rows
def SqL (K : PySem.W.Frag) (H : Hp) (a : Addr) (xs : List V) : Prop :=
  Rd H a (.lst xs) ∨
    ∃ (o : Obj) (its : Array Value) (n : Nat), K.lookup a = some o ∧ o.cls = .type "list" ∧ o.dict = none ∧ o.data = .seq its n ∧ its.size ≤ sizeLine ∧ Vals xs its.toList
def SqT (K : PySem.W.Frag) (H : Hp) (a : Addr) (xs : List V) : Prop :=
  Rd H a (.tup xs) ∨
    ∃ (o : Obj) (its : Array Value) (n : Nat), K.lookup a = some o ∧ o.cls = .type "tuple" ∧ o.data = .seq its n ∧ its.size ≤ sizeLine ∧ Vals xs its.toList
def absV : Value → Option V
  | .none => some .non
  | .bool b => some (.bl b)
  | .int i _ => some (.int i)
  | .str x _ => some (.str x)
  | .bytes b _ => some (.byt b)
  | .float b _ => some (.flt b)
  | .ref a => some (.ref a)
  | .type n => some (.ty n)
  | _ => none
theorem RelV.abs {x : V} {u : Value} (r : RelV x u) : absV u = some x := by
  cases x with
  | non => cases r; rfl
  | bl _ => cases r; rfl
  | int _ => obtain ⟨t, rfl⟩ := r; rfl
  | str _ => obtain ⟨t, rfl⟩ := r; rfl
  | byt _ => obtain ⟨t, rfl⟩ := r; rfl
  | flt _ => obtain ⟨t, rfl⟩ := r; rfl
  | ref _ => cases r; rfl
  | ty _ => cases r; rfl
theorem RelV.inj {x y : V} {u : Value} (r : RelV x u) (q : RelV y u) : x = y := Option.some.inj (r.abs.symm.trans q.abs)
theorem Vals.inj : ∀ {xs ys : List V} {us : List Value}, Vals xs us → Vals ys us → xs = ys
  | _, _, _, .nil, .nil => rfl
  | _, _, _, .cons r t, .cons r' t' => by rw [r.inj r', Vals.inj t t']
section
variable {X : Cx} {pins : List (Addr × Obj)} {σ : St} {H : Hp} {s : Shared} {a : Addr} {xs ys : List V}
theorem SqL.of {K : PySem.W.Frag} (h : H a = some (.lst xs)) : SqL K H a xs := .inl (.inl h)
theorem SqT.of {K : PySem.W.Frag} (h : H a = some (.tup xs)) : SqT K H a xs := .inl (.inl h)
theorem Inv.list (I : Inv X pins σ H s) (h : SqL X.K H a xs) : ∃ its : List Value, Vals xs its ∧ PlainL s.heap a its.toArray ∧ xs.length ≤ sizeLine := by
  rcases h with h | ⟨o, its, n, hk, hc, hd, hs, hz, r⟩
  · obtain ⟨z, its, n, r, e⟩ := h.ok I.hok
    exact ⟨its, r, ⟨_, n, e, rfl, rfl, rfl⟩, z⟩
  · refine ⟨its.toList, r, ⟨o, n, I.kIn a o hk, hc, hd, by simpa using hs⟩, ?_⟩
    have e := r.length
    simp only [Array.length_toList] at e
    omega
theorem Inv.tuple (I : Inv X pins σ H s) (h : SqT X.K H a xs) : ∃ its : List Value, Vals xs its ∧ IsTup s.heap a its.toArray ∧ xs.length ≤ sizeLine := by
  rcases h with h | ⟨o, its, n, hk, hc, hs, hz, r⟩
  · obtain ⟨z, its, r, p⟩ := h.ok I.hok
    exact ⟨its, r, p, z⟩
  · refine ⟨its.toList, r, ⟨o, I.kIn a o hk, hc, n, by simpa using hs⟩, ?_⟩
    have e := r.length
    simp only [Array.length_toList] at e
    omega
theorem Inv.list_inj (I : Inv X pins σ H s) (h : SqL X.K H a xs) (h' : SqL X.K H a ys) : xs = ys := by
  obtain ⟨its, r, ⟨o, n, e, _, _, d⟩, _⟩ := I.list h
  obtain ⟨its', r', ⟨o', n', e', _, _, d'⟩, _⟩ := I.list h'
  rw [e] at e'; cases e'
  rw [d] at d'
  injection d' with d1 _
  have : its = its' := by simpa using congrArg Array.toList d1
  subst this
  exact r.inj r'
theorem Inv.tuple_inj (I : Inv X pins σ H s) (h : SqT X.K H a xs) (h' : SqT X.K H a ys) : xs = ys := by
  obtain ⟨its, r, ⟨o, e, _, n, d⟩, _⟩ := I.tuple h
  obtain ⟨its', r', ⟨o', e', _, n', d'⟩, _⟩ := I.tuple h'
  rw [e] at e'; cases e'
  rw [d] at d'
  injection d' with d1 _
  have : its = its' := by simpa using congrArg Array.toList d1
  subst this
  exact r.inj r'
end
abbrev Cx.wish (X : Cx) (E : Value → Shared → Prop) : Cx := { X with xe := E }
abbrev Cx.nox (X : Cx) : Cx := X.wish fun _ _ => False
theorem Cx.Ok.wish {X : Cx} (ok : X.Ok) (E : Value → Shared → Prop) : (X.wish E).Ok :=
  ⟨ok.mod, ok.kind, ok.glob, ok.blt, ok.above, ok.inj, ok.has, ok.cab, ok.hd, ok.frames, ok.stk, ok.exf, ok.bs, ok.bsz, ok.noex, ok.exfs, ok.funs, ok.frf⟩
theorem Cx.Ok.unwish {X : Cx} {E : Value → Shared → Prop} (ok : (X.wish E).Ok) : X.Ok :=
  ⟨ok.mod, ok.kind, ok.glob, ok.blt, ok.above, ok.inj, ok.has, ok.cab, ok.hd, ok.frames, ok.stk, ok.exf, ok.bs, ok.bsz, ok.noex, ok.exfs, ok.funs, ok.frf⟩
section
variable {X : Cx} {pins : List (Addr × Obj)} {σ : St} {H : Hp} {s : Shared} {E : Value → Shared → Prop}
theorem Inv.wish (I : Inv X pins σ H s) (E : Value → Shared → Prop) : Inv (X.wish E) pins σ H s := ⟨I.ok.wish E, I.os, I.bare, I.base, I.loc, I.cell, I.free, I.freeC, I.pin, I.hok, I.len⟩
theorem Inv.unwish (I : Inv (X.wish E) pins σ H s) : Inv X pins σ H s := ⟨I.ok.unwish, I.os, I.bare, I.base, I.loc, I.cell, I.free, I.freeC, I.pin, I.hok, I.len⟩
theorem SP.unwish {D : Ends} {f : Flow} {s' : Shared} (h : SP (X.wish E) pins D f s') : SP X pins D f s' := by
  cases f with
  | next => obtain ⟨σ', H', I, q⟩ := h; exact ⟨σ', H', I.unwish, q⟩
  | brk => obtain ⟨σ', H', I, q⟩ := h; exact ⟨σ', H', I.unwish, q⟩
  | cont => obtain ⟨σ', H', I, q⟩ := h; exact ⟨σ', H', I.unwish, q⟩
  | ret u => obtain ⟨v, σ', H', I, r, q⟩ := h; exact ⟨v, σ', H', I.unwish, r, q⟩
theorem PSs.nox {st : List Stmt} {t : TS} (h : PSs X.nox st t) : PSs X st t := fun pins s σ H D I hw =>
  wpAny_mono (h pins s σ H D (I.wish _) hw) (fun _ _ q => q.unwish) fun _ _ z => False.elim z
end
section
variable {X : Cx} {st : Stmt} {rest : List Stmt} {t u : TS} {e : Expr} {te : TE} {pos : Pos}
def tNext : TS := fun D σ H => D.nx σ H
def tSeq (t u : TS) : TS := fun D σ H => t { D with nx := u D } σ H
theorem pss_nil : PSs X [] tNext := fun _ _ σ H _ I h => wpAny_execs_nil ⟨σ, H, I, h⟩
theorem pss_cons (h1 : PS X st t) (h2 : PSs X rest u) : PSs X (st :: rest) (tSeq t u) := by
  intro pins s σ H D I h
  refine wpAny_execs_cons (thn (h1 pins s σ H { D with nx := u D } I h) fun f s1 q => ?_)
  cases f with
  | next =>
    obtain ⟨σ', H', I', q⟩ := q
    exact h2 pins s1 σ' H' D I' q
  | ret v => exact q
  | brk => exact q
  | cont => exact q
theorem pss_one (h1 : PS X st t) : PSs X [st] t := by
  intro pins s σ H D I h
  refine wpAny_execs_cons (thn (h1 pins s σ H D I h) fun f s1 q => ?_)
  cases f with
  | next => exact wpAny_execs_nil q
  | ret v => exact q
  | brk => exact q
  | cont => exact q
theorem Inv.quiet {pins : List (Addr × Obj)} {σ : St} {H : Hp} {s : Shared} (I : Inv X pins σ H s) : interactive X.env = false := by simp [interactive, I.ok.kind]
def tDrop (te : TE) : TS := fun D σ H => te σ H fun _ H1 => D.nx σ H1
theorem ps_expr (he : PE X e te) (hs : swapsWith e none pos.line X.env = pure false := by rfl) : PS X (.Expr e pos) (tDrop te) := by
  intro pins s σ H D I h
  exact wpAny_Expr_any (thn (he pins s σ H _ I h) fun v s1 ⟨x, H1, I1, r1, q1⟩ => ⟨σ, H1, I1, q1⟩) I.quiet hs
def tRet (te : TE) : TS := fun D σ H => te σ H D.rt
theorem ps_ret (he : PE X e te) : PS X (.Return (some e) pos) (tRet te) := by
  intro pins s σ H D I h
  exact wpAny_Return_some (thn (he pins s σ H _ I h) fun v s1 ⟨x, H1, I1, r1, q1⟩ => ⟨x, σ, H1, I1, r1, q1⟩)
def tIfS (c : TT) (t u : TS) : TS := fun D σ H => c σ H fun b H1 => if b = true then t D σ H1 else u D σ H1
theorem ps_if {c : Expr} {a b : List Stmt} {tc : TT} (hc : PT X c tc) (ha : PSs X a t) (hb : PSs X b u) : PS X (.If c a b pos) (tIfS tc t u) := by
  intro pins s σ H D I h
  refine wpAny_If (thn (hc pins s σ H _ I h) fun d s1 ⟨H1, I1, q1⟩ => ?_)
  cases d with
  | true => exact ha pins s1 σ H1 D I1 q1
  | false => exact hb pins s1 σ H1 D I1 q1
def tNever : TS := fun _ _ _ => False
theorem ps_never : PS X st tNever := fun _ _ _ _ _ _ h => h.elim
theorem pss_never {sts : List Stmt} : PSs X sts tNever := fun _ _ _ _ _ _ h => h.elim
end
abbrev TG := V → St → Hp → (St → Hp → Prop) → Prop
abbrev TGs := List V → St → Hp → (St → Hp → Prop) → Prop
def PG (X : Cx) (target : Expr) (t : TG) : Prop :=
  ∀ (pins : List (Addr × Obj)) (s : Shared) (σ : St) (H : Hp) (v : V) (u : Value) (Q : St → Hp → Prop), Inv X pins σ H s → RelV v u → t v σ H Q →
    wpAny (model X.prog X.w) X.A (assign target X.env u) (fun _ s' => ∃ σ' H', Inv X pins σ' H' s' ∧ Q σ' H') X.xe s
abbrev TSet := V → V → V → Hp → (Hp → Prop) → Prop
abbrev TIp := V → V → Hp → VK → Prop
def PIp (X : Cx) (op : Operator) (t : TIp) : Prop :=
  ∀ (pins : List (Addr × Obj)) (s : Shared) (σ : St) (H : Hp) (x y : V) (v u : Value) (Q : VK), Inv X pins σ H s → RelV x v → RelV y u → t x y H Q →
    wpAny (model X.prog X.w) X.A (inplaceOp op v u) (EP X pins σ Q) X.xe s
section
variable {X : Cx} {pos : Pos}
def gName (i : Nat) : TG := fun v σ H Q => Q (σ.set i (some v)) H
theorem pg_name {i : Nat} {x : Str} (hN : X.N.Nodup) (hi : X.N[i]? = some x) (hx : Loc X.env.scope x) (hf : X.fn x = true ∨ X.env.scope.names.lookup x = some .local := by first | exact .inl rfl | exact .inr rfl | assumption) : PG X (.Name x pos) (gName i) := by
  intro pins s σ H v u Q I r h
  exact wpAny_assign_Name (store_ok I hN hi hx r (fun s' I' => ⟨_, H, I', h⟩) hf)
def tAsg (te : TE) (g : TG) : TS := fun D σ H => te σ H fun x H1 => g x σ H1 D.nx
theorem ps_set {i : Nat} {x : Str} {e : Expr} {te : TE} {pos' : Pos} (hN : X.N.Nodup) (hi : X.N[i]? = some x) (hx : Loc X.env.scope x) (he : PE X e te) (hs : swapsWith e (some (.Name x pos')) pos.line X.env = pure false := by rfl) (hf : X.fn x = true ∨ X.env.scope.names.lookup x = some .local := by first | exact .inl rfl | exact .inr rfl | assumption) :
    PS X (.Assign [.Name x pos'] e pos) (tAsg te (gName i)) := by
  intro pins s σ H D I h
  refine wpAny_Assign_Name (thn (he pins s σ H _ I h) fun v s1 ⟨y, H1, I1, r1, q1⟩ => ?_) hs
  exact store_ok I1 hN hi hx r1 (fun s2 I2 => ⟨_, H1, I2, q1⟩) hf
def tAug (i : Nat) (te : TE) (ti : TIp) : TS := fun D σ H => ∃ x, σ[i]? = some (some x) ∧ te σ H fun y H1 => ti x y H1 fun z H2 => D.nx (σ.set i (some z)) H2
theorem ps_aug {i : Nat} {x : Str} {e : Expr} {te : TE} {op : Operator} {ti : TIp} {pos' : Pos} (hN : X.N.Nodup) (hi : X.N[i]? = some x) (hx : Loc X.env.scope x) (he : PE X e te) (ho : PIp X op ti) (hf : X.fn x = true ∨ X.env.scope.names.lookup x = some .local := by first | exact .inl rfl | exact .inr rfl | assumption) :
    PS X (.AugAssign (.Name x pos') op e pos) (tAug i te ti) := by
  intro pins s σ H D I h
  obtain ⟨v, e1, h⟩ := h
  obtain ⟨m, hn, hl⟩ := I.loc
  have vis : Vis X.env.scope x := by rcases hx with k | k; exact .inl k; exact .inr (.inl k)
  obtain ⟨u, r, l⟩ := hl i x v hi e1 vis
  refine wpAny_AugAssign_Name ?_
  have go : wpAny (model X.prog X.w) X.A (eval e X.env) (fun w s₂ => wpAny (model X.prog X.w) X.A (inplaceOp op u w) (fun r s₃ => wpAny (model X.prog X.w) X.A (storeName X.env x r) (fun _ => SP X pins D .next) X.xe s₃) X.xe s₂) X.xe s := by
    refine thn (he pins s σ H _ I h) fun w s1 ⟨y, H1, I1, r1, q1⟩ => ?_
    refine thn (ho pins s1 σ H1 v y u w _ I1 r r1 q1) fun z s2 ⟨zv, H2, I2, r2, q2⟩ => ?_
    exact store_ok I2 hN hi hx r2 (fun s3 I3 => ⟨_, H2, I3, q2⟩) hf
  rcases l with ⟨hk, hm⟩ | ⟨hk, c, hc, hcell⟩
  · exact wpAny_loadName_local I.ok.kind hk hn hm go
  · rcases hk with hk | hk
    · exact wpAny_loadName_cell I.ok.kind hk hc hcell go
    · rcases hx with k | k
      · have : X.env.scope.names.lookup x = some .free := hk
        rw [k] at this; cases this
      · have : X.env.scope.names.lookup x = some .free := hk
        rw [k] at this; cases this
def ipI (f : Int → Int → Int) : TIp := fun x y H Q => ∃ i j, x = .int i ∧ y = .int j ∧ Q (.int (f i j)) H
theorem ip_add : PIp X .Add (ipI fun i j => i + j) := by
  intro pins s σ H x y v u Q I r1 r2 h
  obtain ⟨i, j, e1, e2, q⟩ := h
  subst e1; subst e2
  obtain ⟨t, rfl⟩ := r1
  obtain ⟨t', rfl⟩ := r2
  exact iadd_int ⟨.int _, H, I.tok _, ⟨_, rfl⟩, q⟩
theorem ip_sub : PIp X .Sub (ipI fun i j => i - j) := by
  intro pins s σ H x y v u Q I r1 r2 h
  obtain ⟨i, j, e1, e2, q⟩ := h
  subst e1; subst e2
  obtain ⟨t, rfl⟩ := r1
  obtain ⟨t', rfl⟩ := r2
  exact isub_int ⟨.int _, H, I.tok _, ⟨_, rfl⟩, q⟩
end
section
variable {X : Cx} {pos : Pos}
def tWhile (c : TT) (tb : TS) : TS := fun D σ H => ∃ W : Nat → St → Hp → Prop, (∃ m, W m σ H) ∧ ∀ m σ H, W m σ H →
  c σ H fun b H1 => if b = true then ∃ N : St → Hp → Prop, (∀ σ' H', N σ' H' → ∃ m', m' < m ∧ W m' σ' H') ∧ tb { D with nx := N, ct := N, bk := D.nx } σ H1 else D.nx σ H1
theorem ps_while {c : Expr} {body : List Stmt} {tc : TT} {tb : TS} (hp : PassesOwn (model X.prog X.w) X.A X.env X.xe) (hc : PT X c tc) (hb : PSs X body tb) : PS X (.While c body [] pos) (tWhile tc tb) := by
  intro pins s σ H D I h
  obtain ⟨W, ⟨m0, w0⟩, turn⟩ := h
  refine wpAny_While (codeAny_whileLoop (fun n s' => ∃ σ' H', Inv X pins σ' H' s' ∧ W n σ' H') ?_ m0 ⟨σ, H, I, w0⟩)
  rintro n s1 ⟨σ1, H1, I1, w1⟩
  refine wpAny_passesOwn hp (thn (hc pins s1 σ1 H1 _ I1 (turn n σ1 H1 w1)) fun b s2 ⟨H2, I2, q2⟩ => ?_)
  cases b with
  | true =>
    obtain ⟨N, hN, q2⟩ := q2
    rw [if_pos rfl]
    refine wpAny_passesOwn hp (thn (hb pins s2 σ1 H2 _ I2 q2) fun f s3 q3 => ?_)
    cases f with
    | next =>
      obtain ⟨σ3, H3, I3, n3⟩ := q3
      obtain ⟨m', hm, w3⟩ := hN σ3 H3 n3
      exact ⟨m', hm, σ3, H3, I3, w3⟩
    | cont =>
      obtain ⟨σ3, H3, I3, n3⟩ := q3
      obtain ⟨m', hm, w3⟩ := hN σ3 H3 n3
      exact ⟨m', hm, σ3, H3, I3, w3⟩
    | brk => exact q3
    | ret v => exact q3
  | false =>
    rw [if_neg Bool.false_ne_true]
    exact wpAny_execs_nil ⟨σ1, H2, I2, q2⟩
end
structure It where
  go : Nat → Hp → Prop
  yld : Nat → Hp → V → Hp → Prop
  stop : Nat → Hp → Prop
def FpOk (X : Cx) (pins : List (Addr × Obj)) (H : Hp) (b : Addr) : Prop :=
  H b = none ∧ b ≠ X.env.locals ∧ b ∉ X.fs ∧ (b ∈ X.ex ∨ X.s₀.heap.objs.size ≤ b) ∧ (∀ x c, X.env.cells.lookup x = some c → c ≠ b) ∧ ∀ p ∈ X.pn ++ pins, p.1 ≠ b
theorem Inv.fpOk {X : Cx} {pins : List (Addr × Obj)} {σ : St} {H H' : Hp} {s : Shared} {b : Addr} (I : Inv X pins σ H s) (hb : s.heap.objs.size ≤ b) (hn : H' b = none) : FpOk X pins H' b := by
  refine ⟨hn, Nat.ne_of_gt (Nat.lt_of_lt_of_le I.lt hb), I.nofs hb, .inr (Nat.le_trans I.sz hb), fun x c e z => ?_, fun p hp z => ?_⟩
  · obtain ⟨v, q⟩ := I.cell x c e
    exact absurd (Nat.lt_of_lt_of_le q.lt (by rw [z]; exact hb)) (Nat.lt_irrefl _)
  · exact absurd (Nat.lt_of_lt_of_le (Heap.lt_size (I.pin p hp).1) (by rw [z]; exact hb)) (Nat.lt_irrefl _)
structure Turn (P : Program) (w : World) (K : PySem.W.Frag) (tg : Expr) (J : It) (fp : List Addr) (it : Addr) (tn : Nat → Heap → Prop) : Prop where
  mem : it ∈ fp
  obj : ∀ i h, tn i h → ∀ b ∈ fp, ∃ o, h.get? b = some o ∧ ∀ v, o.data ≠ .cell v
  keep : ∀ i h h', tn i h → (∀ b ∈ fp, ∀ o, h.get? b = some o → h'.get? b = some o) → tn i h'
  item : ∀ (X : Cx), X.prog = P → X.w = w → X.K = K → X.calm = true → ∀ (i : Nat) (pins : List (Addr × Obj)) (s : Shared) (σ : St) (H : Hp) (E : Value → Shared → Prop), Inv X pins σ H s → (∀ b ∈ fp, FpOk X pins H b) → tn i s.heap → J.go i H →
    wpAny (model P w) X.A (pyNext (.ref it)) (fun r s1 => ∃ u, r = some u ∧
      wpAny (model P w) X.A (letOwnedTupleGo tg (.ref it) u) (fun _ s2 => ∃ x H', Inv X pins σ H' s2 ∧ RelV x u ∧ J.yld i H x H' ∧ tn (i + 1) s2.heap ∧ ∀ b ∈ fp, H' b = none) E s1) E s
  done : ∀ (X : Cx), X.prog = P → X.w = w → X.K = K → X.calm = true → ∀ (i : Nat) (pins : List (Addr × Obj)) (s : Shared) (σ : St) (H : Hp) (E : Value → Shared → Prop), Inv X pins σ H s → (∀ b ∈ fp, FpOk X pins H b) → tn i s.heap → J.stop i H →
    wpAny (model P w) X.A (pyNext (.ref it)) (fun r s1 => r = none ∧ Inv X pins σ H s1) E s
  self : ∀ (A : Around) (i : Nat) (s : Shared) (Q : Value → Shared → Prop) (E : Value → Shared → Prop), tn i s.heap → Q (.ref it) s → wpAny (model P w) A (pyIter (.ref it)) Q E s
abbrev TI := St → Hp → (It → Hp → Prop) → Prop
def PIE (X : Cx) (pins : List (Addr × Obj)) (σ : St) (tg : Expr) (R : It → Hp → Prop) (itv : Value) (s2 : Shared) : Prop :=
  ∃ (it : Addr) (fp : List Addr) (tn : Nat → Heap → Prop) (J : It) (H' : Hp), itv = .ref it ∧ Inv X pins σ H' s2 ∧ Turn X.prog X.w X.K tg J fp it tn ∧ tn 0 s2.heap ∧ (∀ b ∈ fp, FpOk X pins H' b) ∧ R J H'
def PI (X : Cx) (tg iter : Expr) (wi : TI) : Prop :=
  ∀ (pins : List (Addr × Obj)) (s : Shared) (σ : St) (H : Hp) (R : It → Hp → Prop), Inv X pins σ H s → wi σ H R →
    wpAny (model X.prog X.w) X.A (eval iter X.env) (fun v s1 => wpAny (model X.prog X.w) X.A (pyIter v) (PIE X pins σ tg R) X.xe s1) X.xe s
theorem go_of {M : Model} {A : Around} {E : Value → Shared → Prop} {s : Shared} {tg : Expr} {it : Addr} {u : Value} {o : Obj} {n : String} {vs : Array Value} {Q : Unit → Shared → Prop} (ho : s.heap.get? it = some o) (hc : o.cls = .type n) (hd : o.data = .fields vs)
    (hn : ["enumerate", "zip", "dict_itemiterator", "dict_reverseitemiterator", "odict_iterator", "itertools.zip_longest", "itertools.pairwise"].contains n = false) (hQ : Q () s) : wpAny M A (letOwnedTupleGo tg (.ref it) u) Q E s := by
  unfold letOwnedTupleGo
  cases tg <;> first
    | exact wpAny_pure hQ
    | (cases u <;> first
        | exact wpAny_pure hQ
        | (refine wpAny_bind (wpAny_load ho ?_)
           rw [hc, hd]
           show wpAny M A (if (["enumerate", "zip", "dict_itemiterator", "dict_reverseitemiterator", "odict_iterator", "itertools.zip_longest", "itertools.pairwise"].contains n && vs[0]? == some (rawInt _)) = true then _ else _) Q E s
           rw [if_neg (by intro h; rw [hn, Bool.false_and] at h; cases h)]
           exact wpAny_pure hQ))
def Itl (K : PySem.W.Frag) (a : Addr) : It :=
  ⟨fun i H => ∃ xs x, SqL K H a xs ∧ xs[i]? = some x, fun i H x H' => H' = H ∧ ∀ xs, SqL K H a xs → xs[i]? = some x, fun i H => ∃ xs, SqL K H a xs ∧ xs.length ≤ i⟩
def Itt (K : PySem.W.Frag) (a : Addr) : It :=
  ⟨fun i H => ∃ xs x, SqT K H a xs ∧ xs[i]? = some x, fun i H x H' => H' = H ∧ ∀ xs, SqT K H a xs → xs[i]? = some x, fun i H => ∃ xs, SqT K H a xs ∧ xs.length ≤ i⟩
def Itr (lo : Int) (n : Nat) : It := ⟨fun i _ => i < n, fun i H x H' => H' = H ∧ x = .int (lo + i), fun i _ => n ≤ i⟩
theorem turn_list {P : Program} {w : World} {K : PySem.W.Frag} {tg : Expr} (a it : Addr) : Turn P w K tg (Itl K a) [it] it (fun i h => h.IsListIter it a i) where
  mem := by simp
  obj := fun i h st b hb => by
    have e : b = it := by simpa using hb
    subst e
    obtain ⟨o, e, c, d⟩ := st
    exact ⟨o, e, fun v z => by rw [d] at z; cases z⟩
  keep := fun i h h' st k => st.at fun o e => k it (by simp) o e
  item := by
    intro X hP hw hK hc i pins s σ H E I hf st hg
    subst hP hw hK
    obtain ⟨xs, x, hq, hx⟩ := hg
    obtain ⟨its, rv, p, hz⟩ := I.list hq
    obtain ⟨u, hu, ru⟩ := rv.get hx
    obtain ⟨f0, f1, f2, f3, f4, f5⟩ := hf it (by simp)
    refine wpAny_pyNext_list_item st p.isList (x := u) (by simpa using hu) fun h' st' sb => ?_
    have I1 : Inv X pins σ H { s with heap := h' } := I.turned (t' := s.toks) (fun b o hb e => (sb.2 b hb).trans e) f0 f1 f3 f4 f5
    obtain ⟨o, e, c, d⟩ := id st'
    exact ⟨u, rfl, go_of (s := { s with heap := h' }) e c d (by decide) ⟨x, H, I1, ru, ⟨rfl, fun ys hy => by rw [I.list_inj hy hq]; exact hx⟩, st', fun b hb => (hf b hb).1⟩⟩
  done := by
    intro X hP hw hK hc i pins s σ H E I hf st hg
    subst hP hw hK
    obtain ⟨xs, hq, hx⟩ := hg
    obtain ⟨its, rv, p, hz⟩ := I.list hq
    obtain ⟨f0, f1, f2, f3, f4, f5⟩ := hf it (by simp)
    have hl := rv.length
    exact wpAny_pyNext_list_end (I.ok.hd hc) st p.isList (by simp; omega) fun h' eb => ⟨rfl, I.turned (t' := s.toks) (fun b o hb e => eb b o hb e) f0 f1 f3 f4 f5⟩
  self := fun _ _ _ _ _ st h => wpAny_pyIter_listiter st h
theorem turn_tuple {P : Program} {w : World} {K : PySem.W.Frag} {tg : Expr} (a it : Addr) : Turn P w K tg (Itt K a) [it] it (fun i h => h.IsTupleIter it a i) where
  mem := by simp
  obj := fun i h st b hb => by
    have e : b = it := by simpa using hb
    subst e
    obtain ⟨o, e, c, d⟩ := st
    exact ⟨o, e, fun v z => by rw [d] at z; cases z⟩
  keep := fun i h h' st k => st.at fun o e => k it (by simp) o e
  item := by
    intro X hP hw hK hc i pins s σ H E I hf st hg
    subst hP hw hK
    obtain ⟨xs, x, hq, hx⟩ := hg
    obtain ⟨its, rv, p, hz⟩ := I.tuple hq
    obtain ⟨u, hu, ru⟩ := rv.get hx
    obtain ⟨f0, f1, f2, f3, f4, f5⟩ := hf it (by simp)
    refine wpAny_pyNext_tuple_item st (show s.heap.IsTuple a its.toArray from p) (x := u) (by simpa using hu) fun h' st' sb => ?_
    have I1 : Inv X pins σ H { s with heap := h' } := I.turned (t' := s.toks) (fun b o hb e => (sb.2 b hb).trans e) f0 f1 f3 f4 f5
    obtain ⟨o, e, c, d⟩ := id st'
    exact ⟨u, rfl, go_of (s := { s with heap := h' }) e c d (by decide) ⟨x, H, I1, ru, ⟨rfl, fun ys hy => by rw [I.tuple_inj hy hq]; exact hx⟩, st', fun b hb => (hf b hb).1⟩⟩
  done := by
    intro X hP hw hK hc i pins s σ H E I hf st hg
    subst hP hw hK
    obtain ⟨xs, hq, hx⟩ := hg
    obtain ⟨its, rv, p, hz⟩ := I.tuple hq
    obtain ⟨f0, f1, f2, f3, f4, f5⟩ := hf it (by simp)
    have hl := rv.length
    exact wpAny_pyNext_tuple_end (I.ok.hd hc) st (show s.heap.IsTuple a its.toArray from p) (by simp; omega) fun h' eb => ⟨rfl, I.turned (t' := s.toks) (fun b o hb e => eb b o hb e) f0 f1 f3 f4 f5⟩
  self := fun _ _ _ _ _ st h => wpAny_pyIter_tupleiter st h
theorem turn_range {P : Program} {w : World} {K : PySem.W.Frag} {tg : Expr} (it : Addr) (lo : Int) (n : Nat) : Turn P w K tg (Itr lo n) [it] it (fun i h => IsRangeIter h it (lo + (i : Nat) * 1) ((n : Int) - (i : Nat)) 1) where
  mem := by simp
  obj := fun i h st b hb => by
    have e : b = it := by simpa using hb
    subst e
    exact ⟨_, st, fun v z => by
      have z' : Data.fields _ = Data.cell v := z
      cases z'⟩
  keep := fun i h h' st k => k it (by simp) _ st
  item := by
    intro X hP hw hK hc i pins s σ H E I hf st hg
    subst hP hw hK
    obtain ⟨f0, f1, f2, f3, f4, f5⟩ := hf it (by simp)
    have W := Walks.range (prog := X.prog) (w := X.w) (I.ok.hd hc) it lo 1 n
    refine W.item i s _ _ hg st fun v h' tk hv st' kk => ?_
    obtain ⟨t, rfl⟩ := hv
    have I1 : Inv X pins σ H { s with heap := h', toks := tk } := I.turned (fun b o hb e => kk b o (by simpa using hb) e) f0 f1 f3 f4 f5
    refine ⟨_, rfl, go_of (s := { s with heap := h', toks := tk }) (n := "range_iterator") st' rfl rfl (by decide) ⟨.int (lo + i), H, I1, ⟨t, ?_⟩, ⟨rfl, rfl⟩, st', fun b hb => (hf b hb).1⟩⟩
    rw [Int.mul_one]
  done := by
    intro X hP hw hK hc i pins s σ H E I hf st hg
    subst hP hw hK
    obtain ⟨f0, f1, f2, f3, f4, f5⟩ := hf it (by simp)
    exact wpAny_pyNext_range_end (I.ok.hd hc) st (by have : n ≤ i := hg; omega) fun h' eb => ⟨rfl, I.turned (t' := s.toks) (fun b o hb e => eb b o hb e) f0 f1 f3 f4 f5⟩
  self := fun _ _ _ _ _ st h => wpAny_pyIter_rangeiter st h
end L2
namespace L2
open PySem PySem.Spec PyProof.Rows
section
variable {X : Cx} {tg : Expr}
def iList (K : PySem.W.Frag) (tl : TE) : TI := fun σ H R => tl σ H fun x H1 => ∃ a, x = .ref a ∧ (∃ xs, SqL K H1 a xs) ∧ R (Itl K a) H1
def iTup (K : PySem.W.Frag) (tl : TE) : TI := fun σ H R => tl σ H fun x H1 => ∃ a, x = .ref a ∧ (∃ xs, SqT K H1 a xs) ∧ R (Itt K a) H1
theorem pi_list {l : Expr} {tl : TE} (hl : PE X l tl) : PI X tg l (iList X.K tl) := by
  intro pins s σ H R I h
  refine thn (hl pins s σ H _ I h) fun v s1 ⟨x, H1, I1, r1, q1⟩ => ?_
  obtain ⟨a, e, ⟨xs, hq⟩, q⟩ := q1
  subst e
  cases r1
  obtain ⟨its, rv, p, hz⟩ := I1.list hq
  refine wpAny_pyIter_list p.isList ?_
  refine ⟨s1.heap.objs.size, [s1.heap.objs.size], _, _, H1, rfl, I1.kept (t' := s1.toks) fun b o e => Heap.get?_push_of_some _ e, turn_list a _, ⟨_, Heap.get?_push_size _ rfl, rfl, rfl⟩, fun b hb => ?_, q⟩
  have e : b = s1.heap.objs.size := by simpa using hb
  subst e
  exact I1.fpOk (Nat.le_refl _) (I1.hok.fresh (Nat.le_refl _))
theorem pi_tup {l : Expr} {tl : TE} (hl : PE X l tl) : PI X tg l (iTup X.K tl) := by
  intro pins s σ H R I h
  refine thn (hl pins s σ H _ I h) fun v s1 ⟨x, H1, I1, r1, q1⟩ => ?_
  obtain ⟨a, e, ⟨xs, hq⟩, q⟩ := q1
  subst e
  cases r1
  obtain ⟨its, rv, p, hz⟩ := I1.tuple hq
  refine wpAny_pyIter_tuple (show s1.heap.IsTuple a its.toArray from p) ?_
  refine ⟨s1.heap.objs.size, [s1.heap.objs.size], _, _, H1, rfl, I1.kept (t' := s1.toks) fun b o e => Heap.get?_push_of_some _ e, turn_tuple a _, ⟨_, Heap.get?_push_size _ rfl, rfl, rfl⟩, fun b hb => ?_, q⟩
  have e : b = s1.heap.objs.size := by simpa using hb
  subst e
  exact I1.fpOk (Nat.le_refl _) (I1.hok.fresh (Nat.le_refl _))
theorem range_it {pins : List (Addr × Obj)} {σ : St} {H : Hp} {s : Shared} {R : It → Hp → Prop} {E : Value → Shared → Prop} {lo hi : Int} {t u v : Tok} {tk : Nat} (I : Inv X pins σ H s) (h1 : -(2 ^ 62) ≤ lo) (h2 : lo < 2 ^ 62) (h3 : -(2 ^ 62) ≤ hi) (h4 : hi < 2 ^ 62)
    (q : R (Itr lo (hi - lo).toNat) H) : wpAny (model X.prog X.w) X.A (pyIter (.ref s.heap.objs.size)) (PIE X pins σ tg R) E { s with heap := s.heap.push { cls := .type "range", data := .fields #[.int lo t, .int hi u, .int 1 v] }, toks := tk } := by
  refine wpAny_pyIter_range (IsRange.new ..) (small_one h1 h2 h3 h4) ?_
  have I1 : Inv X pins σ H { s with heap := s.heap.push { cls := .type "range", data := .fields #[.int lo t, .int hi u, .int 1 v] }, toks := tk } := I.kept fun b o e => Heap.get?_push_of_some _ e
  refine ⟨(s.heap.push { cls := .type "range", data := .fields #[.int lo t, .int hi u, .int 1 v] }).objs.size, [(s.heap.push { cls := .type "range", data := .fields #[.int lo t, .int hi u, .int 1 v] }).objs.size], _, _, H, rfl,
    I1.kept (t' := tk) fun b o e => Heap.get?_push_of_some _ e, turn_range _ lo (hi - lo).toNat, ?_, fun b hb => ?_, q⟩
  · have e1 : lo + ((0 : Nat) : Int) * 1 = lo := by simp
    have e2 : (((hi - lo).toNat : Nat) : Int) - ((0 : Nat) : Int) = Builtin.Range.rangeSize lo hi 1 := by rw [rangeSize_one]; split <;> omega
    show IsRangeIter _ _ (lo + ((0 : Nat) : Int) * 1) ((((hi - lo).toNat : Nat) : Int) - ((0 : Nat) : Int)) 1
    rw [e1, e2]
    exact Heap.get?_push_size _ rfl
  · have e : b = (s.heap.push { cls := .type "range", data := .fields #[.int lo t, .int hi u, .int 1 v] }).objs.size := by simpa using hb
    subst e
    exact I1.fpOk (Nat.le_refl _) (I1.hok.fresh (Nat.le_refl _))
def iRng1 (ta : TA) : TI := fun σ H R => ta σ H fun vs H1 => ∃ j : Int, vs = [.int j] ∧ -(2 ^ 62) ≤ j ∧ j < 2 ^ 62 ∧ R (Itr 0 j.toNat) H1
def iRng2 (ta : TA) : TI := fun σ H R => ta σ H fun vs H1 => ∃ i j : Int, vs = [.int i, .int j] ∧ (-(2 ^ 62) ≤ i ∧ i < 2 ^ 62 ∧ -(2 ^ 62) ≤ j ∧ j < 2 ^ 62) ∧ R (Itr i (j - i).toNat) H1
theorem pi_range1 {a : Expr} {ta : TA} {p pos : Pos} (hg : Gl X "range") (hm : X.mg "range" = none) (ha : PA X [a] ta) (hs : starEach [a] X.env = [(false, eval a X.env)] := by rfl) : PI X tg (.Call (.Name "range" p) [a] [] pos) (iRng1 ta) := by
  intro pins s σ H R I h
  refine Call_ (ld_blt I hg hm boot_range (PyProof.Rows.callWith_type1 (thn (ha pos pins s σ H _ I h) fun us s1 ⟨vs, H1, I1, r1, q1⟩ => ?_) hs rfl))
  obtain ⟨j, e, q1, q2, q⟩ := q1
  subst e
  cases r1 with
  | cons r rr =>
    cases rr
    obtain ⟨t, rfl⟩ := r
    exact call_range_1 (range_it I1 (by omega) (by omega) q1 q2 (by simpa using q))
theorem pi_range2 {a b : Expr} {ta : TA} {p pos : Pos} (hg : Gl X "range") (hm : X.mg "range" = none) (ha : PA X [a, b] ta) (hs : starEach [a, b] X.env = [(false, eval a X.env), (false, eval b X.env)] := by rfl) (hs2 : starEach [b] X.env = [(false, eval b X.env)] := by rfl) :
    PI X tg (.Call (.Name "range" p) [a, b] [] pos) (iRng2 ta) := by
  intro pins s σ H R I h
  refine Call_ (ld_blt I hg hm boot_range (PyProof.Rows.callWith_type1 (thn (ha pos pins s σ H _ I h) fun us s1 ⟨vs, H1, I1, r1, q1⟩ => ?_) (by rw [hs, hs2]) (by rw [hs2]; rfl)))
  obtain ⟨i, j, e, ⟨q1, q2, q3, q4⟩, q⟩ := q1
  subst e
  cases r1 with
  | cons r rr =>
    cases rr with
    | cons r' rr =>
      cases rr
      obtain ⟨t, rfl⟩ := r
      obtain ⟨t', rfl⟩ := r'
      exact call_range_2 (range_it I1 q1 q2 q3 q4 q)
def tFor (wi : TI) (g : TG) (tb : TS) : TS := fun D σ H => wi σ H fun J H1 => ∃ W : Nat → Nat → St → Hp → Prop, (∃ m, W 0 m σ H1) ∧ ∀ i m σ H, W i m σ H →
  (J.stop i H ∧ D.nx σ H) ∨ (J.go i H ∧ ∃ N : St → Hp → Prop, (∀ σ' H', N σ' H' → ∃ m', m' < m ∧ W (i + 1) m' σ' H') ∧ ∀ x H', J.yld i H x H' → g x σ H' fun σ2 H2 => tb { D with nx := N, ct := N, bk := D.nx } σ2 H2)
def pinsAt (fp : List Addr) (h : Heap) : List (Addr × Obj) := fp.filterMap fun b => (h.get? b).map fun o => (b, o)
theorem mem_pinsAt {fp : List Addr} {h : Heap} {b : Addr} {o : Obj} (hb : b ∈ fp) (e : h.get? b = some o) : (b, o) ∈ pinsAt fp h := List.mem_filterMap.mpr ⟨b, hb, by rw [e]; rfl⟩
theorem of_pinsAt {fp : List Addr} {h : Heap} {p : Addr × Obj} (hp : p ∈ pinsAt fp h) : p.1 ∈ fp ∧ h.get? p.1 = some p.2 := by
  obtain ⟨b, hb, e⟩ := List.mem_filterMap.mp hp
  cases q : h.get? b with
  | none => rw [q] at e; cases e
  | some o =>
    rw [q] at e
    have e' : (b, o) = p := Option.some.inj e
    subst e'
    exact ⟨hb, q⟩
theorem Inv.pinned {pins : List (Addr × Obj)} {σ : St} {H : Hp} {s : Shared} {fp : List Addr} (I : Inv X pins σ H s) (hf : ∀ b ∈ fp, FpOk X pins H b) (ho : ∀ b ∈ fp, ∃ o, s.heap.get? b = some o ∧ ∀ v, o.data ≠ .cell v) : Inv X (pins ++ pinsAt fp s.heap) σ H s :=
  I.pins_of fun p hp => (List.mem_append.mp hp).elim (fun z => I.pin p (List.mem_append_right _ z)) fun z => by
    obtain ⟨hb, e⟩ := of_pinsAt z
    obtain ⟨f0, f1, f2, _⟩ := hf p.1 hb
    obtain ⟨o, e', d⟩ := ho p.1 hb
    rw [e] at e'; cases e'
    exact ⟨e, f0, f1, f2, d⟩
theorem Inv.unpinned {pins pl : List (Addr × Obj)} {σ : St} {H : Hp} {s : Shared} (I : Inv X (pins ++ pl) σ H s) : Inv X pins σ H s := I.pins_of fun p hp => I.pin p (List.mem_append_right _ (List.mem_append_left _ hp))
theorem ps_for {iter : Expr} {body : List Stmt} {wi : TI} {g : TG} {tb : TS} {pos : Pos} (hp : PassesOwn (model X.prog X.w) X.A X.env X.xe) (hc : X.calm = true) (hi : PI X tg iter wi) (hg : PG X tg g) (hb : PSs X body tb)
    (hs : ∀ x, foldedSetIterable iter X.env x = pure x := by intro _; rfl) : PS X (.For tg iter body [] pos) (tFor wi g tb) := by
  intro pins s σ H D I h
  refine wpAny_For (thn (hi pins s σ H _ I h) fun v s1 h1 => thn h1 fun itv s2 h2 => ?_) hs
  obtain ⟨it, fp, tn, J, H2, e, I2, T, st2, f2, W, ⟨m0, w0⟩, turn⟩ := h2
  subst e
  have stat : ∀ {H' : Hp}, (∀ b ∈ fp, H' b = none) → ∀ b ∈ fp, FpOk X pins H' b := fun hn b hb => ⟨hn b hb, (f2 b hb).2⟩
  refine codeAny_forLoop_any (fun n s' => ∃ i σ' H', Inv X pins σ' H' s' ∧ tn i s'.heap ∧ (∀ b ∈ fp, H' b = none) ∧ W i n σ' H') ?_ m0 ⟨0, σ, H2, I2, st2, fun b hb => (f2 b hb).1, w0⟩
  rintro n s3 ⟨i, σ3, H3, I3, st3, fr3, w3⟩
  rcases turn i n σ3 H3 w3 with ⟨stop, qn⟩ | ⟨go, N, hN, step⟩
  · refine wpAny_passesOwn hp (thn (T.done X rfl rfl rfl hc i pins s3 σ3 H3 X.xe I3 (stat fr3) st3 stop) fun r s4 ⟨hr, I4⟩ => ?_)
    subst hr
    exact wpAny_execs_nil ⟨σ3, H3, I4, qn⟩
  · refine wpAny_passesOwn hp (thn (T.item X rfl rfl rfl hc i pins s3 σ3 H3 X.xe I3 (stat fr3) st3 go) fun r s4 ⟨u, hr, h4⟩ => ?_)
    subst hr
    refine wpAny_passesOwn hp (thn h4 fun _ s5 ⟨x, H5, I5, r5, y5, st5, fr5⟩ => ?_)
    have I5' := I5.pinned (stat fr5) (T.obj _ _ st5)
    refine wpAny_passesOwn hp (thn (hg _ s5 σ3 H5 x u _ I5' r5 (step x H5 y5)) fun _ s6 ⟨σ6, H6, I6, q6⟩ => ?_)
    refine wpAny_passesOwn hp (thn (hb _ s6 σ6 H6 _ I6 q6) fun f s7 q7 => ?_)
    have again : ∀ {σ7 : St} {H7 : Hp}, Inv X (pins ++ pinsAt fp s5.heap) σ7 H7 s7 → N σ7 H7 → ∃ m, m < n ∧ ∃ i σ' H', Inv X pins σ' H' s7 ∧ tn i s7.heap ∧ (∀ b ∈ fp, H' b = none) ∧ W i m σ' H' := fun {σ7 H7} I7 n7 => by
      obtain ⟨m', hm, w7⟩ := hN σ7 H7 n7
      refine ⟨m', hm, i + 1, σ7, H7, I7.unpinned, T.keep _ _ _ st5 fun b hb o e => (I7.pin (b, o) (List.mem_append_right _ (List.mem_append_right _ (mem_pinsAt hb e)))).1, fun b hb => ?_, w7⟩
      obtain ⟨o, e, d⟩ := T.obj _ _ st5 b hb
      exact (I7.pin (b, o) (List.mem_append_right _ (List.mem_append_right _ (mem_pinsAt hb e)))).2.1
    cases f with
    | next => obtain ⟨σ7, H7, I7, n7⟩ := q7; exact again I7 n7
    | cont => obtain ⟨σ7, H7, I7, n7⟩ := q7; exact again I7 n7
    | brk => obtain ⟨σ7, H7, I7, q7⟩ := q7; exact ⟨σ7, H7, I7.unpinned, q7⟩
    | ret v => obtain ⟨x7, σ7, H7, I7, r7, q7⟩ := q7; exact ⟨x7, σ7, H7, I7.unpinned, r7, q7⟩
end
theorem for_list {K : PySem.W.Frag} {a : Addr} {xs : List V} {g : TG} {tb : TS} {D : Ends} {σ : St} {H : Hp} (Pv : Nat → St → Hp → Prop) (h0 : Pv 0 σ H) (hl : ∀ i σ H, i ≤ xs.length → Pv i σ H → SqL K H a xs)
    (hs : ∀ i x σ H, xs[i]? = some x → Pv i σ H → g x σ H fun σ2 H2 => tb { D with nx := Pv (i + 1), ct := Pv (i + 1), bk := D.nx } σ2 H2) (hd : ∀ σ H, Pv xs.length σ H → D.nx σ H) :
    ∃ W : Nat → Nat → St → Hp → Prop, (∃ m, W 0 m σ H) ∧ ∀ i m σ H, W i m σ H →
      ((Itl K a).stop i H ∧ D.nx σ H) ∨ ((Itl K a).go i H ∧ ∃ N : St → Hp → Prop, (∀ σ' H', N σ' H' → ∃ m', m' < m ∧ W (i + 1) m' σ' H') ∧ ∀ x H', (Itl K a).yld i H x H' → g x σ H' fun σ2 H2 => tb { D with nx := N, ct := N, bk := D.nx } σ2 H2) := by
  refine ⟨fun i m σ H => m = xs.length - i ∧ i ≤ xs.length ∧ Pv i σ H, ⟨xs.length, by simp, Nat.zero_le _, h0⟩, ?_⟩
  rintro i m σ H ⟨rfl, hi, p⟩
  have q := hl i σ H hi p
  by_cases hlt : i < xs.length
  · refine .inr ⟨⟨xs, xs[i], q, by simp [hlt]⟩, Pv (i + 1), fun σ' H' p' => ⟨xs.length - (i + 1), by omega, rfl, hlt, p'⟩, fun x H' y => ?_⟩
    obtain ⟨e, y⟩ := y
    subst e
    exact hs i x σ _ (y xs q) p
  · have e : i = xs.length := by omega
    subst e
    exact .inl ⟨⟨xs, q, Nat.le_refl _⟩, hd σ H p⟩
theorem for_tup {K : PySem.W.Frag} {a : Addr} {xs : List V} {g : TG} {tb : TS} {D : Ends} {σ : St} {H : Hp} (Pv : Nat → St → Hp → Prop) (h0 : Pv 0 σ H) (hl : ∀ i σ H, i ≤ xs.length → Pv i σ H → SqT K H a xs)
    (hs : ∀ i x σ H, xs[i]? = some x → Pv i σ H → g x σ H fun σ2 H2 => tb { D with nx := Pv (i + 1), ct := Pv (i + 1), bk := D.nx } σ2 H2) (hd : ∀ σ H, Pv xs.length σ H → D.nx σ H) :
    ∃ W : Nat → Nat → St → Hp → Prop, (∃ m, W 0 m σ H) ∧ ∀ i m σ H, W i m σ H →
      ((Itt K a).stop i H ∧ D.nx σ H) ∨ ((Itt K a).go i H ∧ ∃ N : St → Hp → Prop, (∀ σ' H', N σ' H' → ∃ m', m' < m ∧ W (i + 1) m' σ' H') ∧ ∀ x H', (Itt K a).yld i H x H' → g x σ H' fun σ2 H2 => tb { D with nx := N, ct := N, bk := D.nx } σ2 H2) := by
  refine ⟨fun i m σ H => m = xs.length - i ∧ i ≤ xs.length ∧ Pv i σ H, ⟨xs.length, by simp, Nat.zero_le _, h0⟩, ?_⟩
  rintro i m σ H ⟨rfl, hi, p⟩
  have q := hl i σ H hi p
  by_cases hlt : i < xs.length
  · refine .inr ⟨⟨xs, xs[i], q, by simp [hlt]⟩, Pv (i + 1), fun σ' H' p' => ⟨xs.length - (i + 1), by omega, rfl, hlt, p'⟩, fun x H' y => ?_⟩
    obtain ⟨e, y⟩ := y
    subst e
    exact hs i x σ _ (y xs q) p
  · have e : i = xs.length := by omega
    subst e
    exact .inl ⟨⟨xs, q, Nat.le_refl _⟩, hd σ H p⟩
theorem for_range {lo : Int} {n : Nat} {g : TG} {tb : TS} {D : Ends} {σ : St} {H : Hp} (Pv : Nat → St → Hp → Prop) (h0 : Pv 0 σ H)
    (hs : ∀ i σ H, i < n → Pv i σ H → g (.int (lo + i)) σ H fun σ2 H2 => tb { D with nx := Pv (i + 1), ct := Pv (i + 1), bk := D.nx } σ2 H2) (hd : ∀ σ H, Pv n σ H → D.nx σ H) :
    ∃ W : Nat → Nat → St → Hp → Prop, (∃ m, W 0 m σ H) ∧ ∀ i m σ H, W i m σ H →
      ((Itr lo n).stop i H ∧ D.nx σ H) ∨ ((Itr lo n).go i H ∧ ∃ N : St → Hp → Prop, (∀ σ' H', N σ' H' → ∃ m', m' < m ∧ W (i + 1) m' σ' H') ∧ ∀ x H', (Itr lo n).yld i H x H' → g x σ H' fun σ2 H2 => tb { D with nx := N, ct := N, bk := D.nx } σ2 H2) := by
  refine ⟨fun i m σ H => m = n - i ∧ i ≤ n ∧ Pv i σ H, ⟨n, by simp, Nat.zero_le _, h0⟩, ?_⟩
  rintro i m σ H ⟨rfl, hi, p⟩
  by_cases hlt : i < n
  · refine .inr ⟨hlt, Pv (i + 1), fun σ' H' p' => ⟨n - (i + 1), by omega, rfl, hlt, p'⟩, fun x H' y => ?_⟩
    obtain ⟨e, y⟩ := y
    subst e y
    exact hs i σ _ hlt p
  · have e : i = n := by omega
    subst e
    exact .inl ⟨Nat.le_refl _, hd σ H p⟩
theorem while_by {c : TT} {tb : TS} {D : Ends} {σ : St} {H : Hp} (Pv : St → Hp → Prop) (μ : St → Hp → Nat) (h0 : Pv σ H)
    (hs : ∀ σ H, Pv σ H → c σ H fun b H1 => if b = true then tb { D with nx := fun σ' H' => Pv σ' H' ∧ μ σ' H' < μ σ H, ct := fun σ' H' => Pv σ' H' ∧ μ σ' H' < μ σ H, bk := D.nx } σ H1 else D.nx σ H1)
    (mono : ∀ σ H Q Q', (∀ b H1, Q b H1 → Q' b H1) → c σ H Q → c σ H Q') : tWhile c tb D σ H := by
  refine ⟨fun m σ H => m = μ σ H ∧ Pv σ H, ⟨_, rfl, h0⟩, ?_⟩
  rintro m σ H ⟨rfl, p⟩
  refine mono σ H _ _ (fun b H1 q => ?_) (hs σ H p)
  cases b with
  | true => exact ⟨_, fun σ' H' ⟨p', l⟩ => ⟨_, l, rfl, p'⟩, q⟩
  | false => exact q
end L2
namespace L2
open PySem PySem.Spec PyProof.Rows
abbrev R2 := V → V → Hp → VK → Prop
def OpR (X : Cx) (f : Value → Value → Sem Value) (r : R2) : Prop :=
  ∀ (pins : List (Addr × Obj)) (s : Shared) (σ : St) (H : Hp) (x y : V) (v u : Value) (Q : VK), Inv X pins σ H s → RelV x v → RelV y u → r x y H Q →
    wpAny (model X.prog X.w) X.A (f v u) (EP X pins σ Q) X.xe s
def UnR (X : Cx) (f : Value → Sem Value) (r : V → Hp → VK → Prop) : Prop :=
  ∀ (pins : List (Addr × Obj)) (s : Shared) (σ : St) (H : Hp) (x : V) (v : Value) (Q : VK), Inv X pins σ H s → RelV x v → r x H Q →
    wpAny (model X.prog X.w) X.A (f v) (EP X pins σ Q) X.xe s
def CallR (X : Cx) (f : Value) (r : List V → Hp → VK → Prop) : Prop :=
  ∀ (pins : List (Addr × Obj)) (s : Shared) (σ : St) (H : Hp) (xs : List V) (us : List Value) (Q : VK), Inv X pins σ H s → Vals xs us → r xs H Q →
    wpAny (model X.prog X.w) X.A (call f us) (EP X pins σ Q) X.xe s
def TruR (X : Cx) (r : V → Hp → (Bool → Hp → Prop) → Prop) : Prop :=
  ∀ (pins : List (Addr × Obj)) (s : Shared) (σ : St) (H : Hp) (x : V) (v : Value) (Q : Bool → Hp → Prop), Inv X pins σ H s → RelV x v → r x H Q →
    wpAny (model X.prog X.w) X.A (truthy v) (TP X pins σ Q) X.xe s
def tOp (r : R2) (ta tb : TE) : TE := fun σ H Q => ta σ H fun x H1 => tb σ H1 fun y H2 => r x y H2 Q
def tUn (r : V → Hp → VK → Prop) (ta : TE) : TE := fun σ H Q => ta σ H fun x H1 => r x H1 Q
def rI (C : Int → Int → Prop) (g : Int → Int → V) : R2 := fun x y H Q => ∃ i j, x = .int i ∧ y = .int j ∧ C i j ∧ Q (g i j) H
def rI0 (g : Int → Int → V) : R2 := fun x y H Q => ∃ i j, x = .int i ∧ y = .int j ∧ Q (g i j) H
def rU (g : Int → V) : V → Hp → VK → Prop := fun x H Q => ∃ i, x = .int i ∧ Q (g i) H
section
variable {X : Cx} {a b c : Expr} {ta tb tc : TE} {pos : Pos}
theorem binT (ha : PE X a ta) (hb : PE X b tb) {pins : List (Addr × Obj)} {s : Shared} {σ : St} {H : Hp} {R : V → V → Hp → Prop} (I : Inv X pins σ H s)
    (h : ta σ H fun x H1 => tb σ H1 fun y H2 => R x y H2) {Q : Value → Shared → Prop} {f : Value → Value → Sem Value}
    (hf : ∀ v u s2 x y H2, Inv X pins σ H2 s2 → RelV x v → RelV y u → R x y H2 → wpAny (model X.prog X.w) X.A (f v u) Q X.xe s2) :
    wpAny (model X.prog X.w) X.A (eval a X.env) (fun v s₁ => wpAny (model X.prog X.w) X.A (eval b X.env) (fun u s₂ => wpAny (model X.prog X.w) X.A (f v u) Q X.xe s₂) X.xe s₁) X.xe s := by
  refine thn (ha pins s σ H _ I h) fun v s1 ⟨x, H1, I1, r1, q1⟩ => ?_
  refine thn (hb pins s1 σ H1 _ I1 q1) fun u s2 ⟨y, H2, I2, r2, q2⟩ => ?_
  exact hf v u s2 x y H2 I2 r1 r2 q2
theorem pe_op {op : Operator} {r : R2} (ho : OpR X (binaryOp op) r) (ha : PE X a ta) (hb : PE X b tb) : PE X (.BinOp a op b pos) (tOp r ta tb) := by
  intro pins s σ H Q I h
  exact wpAny_BinOp (binT ha hb I h fun v u s2 x y H2 I2 rx ry q => ho pins s2 σ H2 x y v u Q I2 rx ry q)
theorem pe_un {op : UnaryOp} {r : V → Hp → VK → Prop} (ho : UnR X (unaryOp op) r) (ha : PE X a ta) : PE X (.UnaryOp op a pos) (tUn r ta) := by
  intro pins s σ H Q I h
  exact UnaryOp_ (thn (ha pins s σ H _ I h) fun v s1 ⟨x, H1, I1, r1, q1⟩ => ho pins s1 σ H1 x v Q I1 r1 q1)
theorem opI {f : Value → Value → Sem Value} {C : Int → Int → Prop} {g : Int → Int → Int}
    (rule : ∀ (i j : Int) (t u : Tok) (s : Shared) (Q : Value → Shared → Prop) (E : Value → Shared → Prop), C i j → Q (.int (g i j) s.toks) { s with toks := s.toks + 1 } → wpAny (model X.prog X.w) X.A (f (.int i t) (.int j u)) Q E s) :
    OpR X f (rI C fun i j => .int (g i j)) := by
  intro pins s σ H x y v u Q I rx ry h
  obtain ⟨i, j, rfl, rfl, hc, q⟩ := h
  obtain ⟨t, rfl⟩ := rx
  obtain ⟨t', rfl⟩ := ry
  exact rule i j t t' s _ _ hc ⟨.int (g i j), H, I.tok _, ⟨_, rfl⟩, q⟩
theorem opI0 {f : Value → Value → Sem Value} {g : Int → Int → Int}
    (rule : ∀ (i j : Int) (t u : Tok) (s : Shared) (Q : Value → Shared → Prop) (E : Value → Shared → Prop), Q (.int (g i j) s.toks) { s with toks := s.toks + 1 } → wpAny (model X.prog X.w) X.A (f (.int i t) (.int j u)) Q E s) :
    OpR X f (rI0 fun i j => .int (g i j)) := by
  intro pins s σ H x y v u Q I rx ry h
  obtain ⟨i, j, rfl, rfl, q⟩ := h
  obtain ⟨t, rfl⟩ := rx
  obtain ⟨t', rfl⟩ := ry
  exact rule i j t t' s _ _ ⟨.int (g i j), H, I.tok _, ⟨_, rfl⟩, q⟩
theorem opB0 {f : Value → Value → Sem Value} {g : Int → Int → Bool}
    (rule : ∀ (i j : Int) (t u : Tok) (s : Shared) (Q : Value → Shared → Prop) (E : Value → Shared → Prop), Q (.bool (g i j)) s → wpAny (model X.prog X.w) X.A (f (.int i t) (.int j u)) Q E s) :
    OpR X f (rI0 fun i j => .bl (g i j)) := by
  intro pins s σ H x y v u Q I rx ry h
  obtain ⟨i, j, rfl, rfl, q⟩ := h
  obtain ⟨t, rfl⟩ := rx
  obtain ⟨t', rfl⟩ := ry
  exact rule i j t t' s _ _ ⟨.bl (g i j), H, I, rfl, q⟩
def CDiv (i j : Int) : Prop := 0 < j ∧ j < 1073741824
def CPow (i j : Int) : Prop := 0 ≤ j ∧ j ≤ 1000000 ∧ i.natAbs < 2 ^ 64
def CMul (i j : Int) : Prop := (-(2 ^ 64) < i ∧ i < 2 ^ 64) ∨ (-(2 ^ 64) < j ∧ j < 2 ^ 64)
theorem CMul.ok {i j : Int} (h : CMul i j) : IntMulOk i j := by
  rcases h with ⟨h1, h2⟩ | ⟨h1, h2⟩
  · exact .of_left (intBits_le_64 h1 h2)
  · exact .of_right (intBits_le_64 h1 h2)
theorem two_pow_nn (k : Nat) : (0 : Int) ≤ 2 ^ k := by
  rw [two_pow_cast]
  exact Int.natCast_nonneg _
theorem op_add : OpR X (binaryOp .Add) (rI0 fun i j => .int (i + j)) := opI0 fun _ _ _ _ _ _ _ q => add_int q
theorem op_sub : OpR X (binaryOp .Sub) (rI0 fun i j => .int (i - j)) := opI0 fun _ _ _ _ _ _ _ q => sub_int q
theorem op_mul : OpR X (binaryOp .Mult) (rI CMul fun i j => .int (i * j)) := opI fun _ _ _ _ _ _ _ hc q => mul_int q hc.ok
theorem op_fdiv : OpR X (binaryOp .FloorDiv) (rI CDiv fun i j => .int (i / j)) := opI fun i j _ _ _ _ _ hc q => by
  have h1 : (0 : Int) < j := hc.1
  have h2 : j < 1073741824 := hc.2
  exact floordiv_int (by omega) (by rw [Int.fdiv_eq_ediv_of_nonneg i (by omega)]; exact q) (.inl (PyProof.noPylong_small (by omega)))
theorem op_mod : OpR X (binaryOp .Mod) (rI (fun _ j => 0 < j) fun i j => .int (i % j)) := opI fun i j _ _ _ _ _ hc q => by
  have h1 : (0 : Int) < j := hc
  exact mod_int' (by omega) (by rw [Int.fmod_eq_emod_of_nonneg i (by omega)]; exact q)
theorem op_pow : OpR X (binaryOp .Pow) (rI CPow fun i j => .int (i ^ j.toNat)) := opI fun _ _ _ _ _ _ _ hc q => pow_int_small hc.1 hc.2.1 hc.2.2 q
theorem op_shl : OpR X (binaryOp .LShift) (rI CPow fun i j => .int (i * 2 ^ j.toNat)) := opI fun _ _ _ _ _ _ _ hc q => lshift_int_small hc.1 hc.2.1 hc.2.2 q
theorem op_shr : OpR X (binaryOp .RShift) (rI (fun _ j => 0 ≤ j) fun i j => .int (i / 2 ^ j.toNat)) := opI fun i j _ _ _ _ _ hc q =>
  rshift_int hc (by rw [Int.fdiv_eq_ediv_of_nonneg i (two_pow_nn _)]; exact q)
theorem op_and : OpR X (binaryOp .BitAnd) (rI0 fun i j => .int (Builtin.bitAnd i j)) := opI0 fun _ _ _ _ _ _ _ q => and_int q
theorem op_or : OpR X (binaryOp .BitOr) (rI0 fun i j => .int (Builtin.bitOr i j)) := opI0 fun _ _ _ _ _ _ _ q => or_int q
theorem iop_or : OpR X (inplaceOp .BitOr) (rI0 fun i j => .int (Builtin.bitOr i j)) := opI0 fun _ _ _ _ _ _ _ q => ior_int q
theorem unI {f : Value → Sem Value} {g : Int → Int}
    (rule : ∀ (i : Int) (t : Tok) (s : Shared) (Q : Value → Shared → Prop) (E : Value → Shared → Prop), Q (.int (g i) s.toks) { s with toks := s.toks + 1 } → wpAny (model X.prog X.w) X.A (f (.int i t)) Q E s) :
    UnR X f (rU fun i => .int (g i)) := by
  intro pins s σ H x v Q I rx h
  obtain ⟨i, rfl, q⟩ := h
  obtain ⟨t, rfl⟩ := rx
  exact rule i t s _ _ ⟨.int (g i), H, I.tok _, ⟨_, rfl⟩, q⟩
theorem un_neg : UnR X (unaryOp .USub) (rU fun i => .int (-i)) := unI fun _ _ _ _ _ q => neg_int q
end
def scal : V → V → Bool
  | .non, .non => true | .non, .int _ => true | .int _, .non => true | .non, .bl _ => true | .bl _, .non => true | .non, .str _ => true | .str _, .non => true
  | .int _, .int _ => true | .bl _, .bl _ => true | .str _, .str _ => true | .byt _, .byt _ => true
  | .int _, .str _ => true | .str _, .int _ => true | .bl _, .str _ => true | .str _, .bl _ => true
  | _, _ => false
def rEq : R2 := fun x y H Q => scal x y = true ∧ Q (.bl (decide (x = y))) H
theorem dec_int {i j : Int} : decide (V.int i = V.int j) = (i == j) := by
  rw [Bool.eq_iff_iff]
  simp
theorem dec_bl {i j : Bool} : decide (V.bl i = V.bl j) = (i == j) := by
  rw [Bool.eq_iff_iff]
  simp
theorem dec_str {i j : Str} : decide (V.str i = V.str j) = (i == j) := by
  rw [Bool.eq_iff_iff]
  simp
theorem dec_byt {i j : Array UInt8} : decide (V.byt i = V.byt j) = (i.toList == j.toList) := by
  rw [Bool.eq_iff_iff]
  cases i
  cases j
  simp
section
variable {X : Cx} {a b c : Expr} {ta tb tc : TE} {pos : Pos}
theorem fin_bl {pins : List (Addr × Obj)} {σ : St} {H : Hp} {s : Shared} {Q : VK} {k k' : Bool} (I : Inv X pins σ H s) (q : Q (.bl k) H) (e : k = k') : EP X pins σ Q (.bool k') s := by
  subst e
  exact ⟨.bl k, H, I, rfl, q⟩
theorem op_eq : OpR X (compareOp .Eq) rEq := by
  intro pins s σ H x y v u Q I rx ry h
  obtain ⟨hs, q⟩ := h
  cases x with
  | non =>
    cases rx
    cases y with
    | non => cases ry; exact PySem.EqNone.eq_none_none (fin_bl I q (by simp))
    | bl j => cases ry; exact PySem.EqNone.eq_none_bool (fin_bl I q (by simp))
    | int j => obtain ⟨t', rfl⟩ := ry; exact PySem.EqNone.eq_none_int (fin_bl I q (by simp))
    | str j => obtain ⟨t', rfl⟩ := ry; exact PySem.EqNone.eq_none_str (fin_bl I q (by simp))
    | _ => exact absurd (show false = true from hs) Bool.false_ne_true
  | bl i =>
    cases rx
    cases y with
    | non => cases ry; exact PySem.EqNone.eq_bool_none (fin_bl I q (by simp))
    | bl j => cases ry; exact eq_bool (fin_bl I q dec_bl)
    | str j => obtain ⟨t', rfl⟩ := ry; exact PySem.EqMixed.eq_bool_str (fin_bl I q (by simp))
    | _ => exact absurd (show false = true from hs) Bool.false_ne_true
  | int i =>
    obtain ⟨t, rfl⟩ := rx
    cases y with
    | non => cases ry; exact PySem.EqNone.eq_int_none (fin_bl I q (by simp))
    | int j => obtain ⟨t', rfl⟩ := ry; exact eq_int (fin_bl I q dec_int)
    | str j => obtain ⟨t', rfl⟩ := ry; exact PySem.EqMixed.eq_int_str (fin_bl I q (by simp))
    | _ => exact absurd (show false = true from hs) Bool.false_ne_true
  | str i =>
    obtain ⟨t, rfl⟩ := rx
    cases y with
    | non => cases ry; exact PySem.EqNone.eq_str_none (fin_bl I q (by simp))
    | bl j => cases ry; exact PySem.EqMixed.eq_str_bool (fin_bl I q (by simp))
    | int j => obtain ⟨t', rfl⟩ := ry; exact PySem.EqMixed.eq_str_int (fin_bl I q (by simp))
    | str j => obtain ⟨t', rfl⟩ := ry; exact eq_str (fin_bl I q dec_str)
    | _ => exact absurd (show false = true from hs) Bool.false_ne_true
  | byt i =>
    obtain ⟨t, rfl⟩ := rx
    cases y with
    | byt j => obtain ⟨t', rfl⟩ := ry; exact PySem.W.eq_bytes (fin_bl I q dec_byt)
    | _ => exact absurd (show false = true from hs) Bool.false_ne_true
  | _ => cases y <;> exact absurd (show false = true from hs) Bool.false_ne_true
theorem op_lt : OpR X (compareOp .Lt) (rI0 fun i j => .bl (decide (i < j))) := opB0 fun _ _ _ _ _ _ _ q => lt_int q
theorem op_le : OpR X (compareOp .LtE) (rI0 fun i j => .bl (decide (i ≤ j))) := opB0 fun _ _ _ _ _ _ _ q => le_int q
theorem op_gt : OpR X (compareOp .Gt) (rI0 fun i j => .bl (decide (j < i))) := opB0 fun _ _ _ _ _ _ _ q => gt_int q
theorem nomark (b : Expr) {op : CmpOp} (h : op ≠ .In := by decide) (h2 : op ≠ .NotIn := by decide) : behindInMarks op b = false := by
  have e1 : (op == CmpOp.In) = false := by cases op <;> first | rfl | exact absurd rfl h
  have e2 : (op == CmpOp.NotIn) = false := by cases op <;> first | rfl | exact absurd rfl h2
  cases b <;> simp [behindInMarks, e1, e2]
theorem pe_cmpR {op : CmpOp} {r : R2} (ho : OpR X (compareOp op) r) (ha : PE X a ta) (hb : PE X b tb) (hm : behindInMarks op b = false) : PE X (.Compare a [op] [b] pos) (tOp r ta tb) := by
  intro pins s σ H Q I h
  exact wpAny_Compare1 (binT ha hb I h fun v u s2 x y H2 I2 rx ry q => ho pins s2 σ H2 x y v u Q I2 rx ry q) hm
def tTest (t : TE) : TT := fun σ H Q => t σ H fun x H' => ∃ k, x = .bl k ∧ Q k H'
theorem pt_cmpR {op : CmpOp} {r : R2} (ho : OpR X (compareOp op) r) (ha : PE X a ta) (hb : PE X b tb) (hm : behindInMarks op b = false) : PT X (.Compare a [op] [b] pos) (tTest (tOp r ta tb)) := by
  intro pins s σ H Q I h
  refine wpAny_isTrue_Compare1 (thn (ha pins s σ H _ I h) fun v s1 ⟨x, H1, I1, r1, q1⟩ => thn (hb pins s1 σ H1 _ I1 q1) fun u s2 ⟨y, H2, I2, r2, q2⟩ =>
    thn (ho pins s2 σ H2 x y v u _ I2 r1 r2 q2) fun c s3 ⟨z, H3, I3, r3, k, e, q3⟩ => ?_) hm
  subst e
  cases r3
  exact wpAny_truthy_bool ⟨H3, I3, q3⟩
def TruV (K : PySem.W.Frag) (x : V) (H : Hp) (k : Bool) : Prop :=
  match x with
  | .non => k = false
  | .bl b => k = b
  | .int i => k = (i != 0)
  | .str y => y.length ≤ sizeLine ∧ k = ((y.length : Int) != 0)
  | .byt y => y.size ≤ sizeLine ∧ k = ((y.size : Int) != 0)
  | .ref p => (∃ xs, SqL K H p xs ∧ k = !xs.isEmpty) ∨ (∃ xs, SqT K H p xs ∧ k = !xs.isEmpty) ∨ ∃ kvs, H p = some (.dK kvs) ∧ k = !kvs.isEmpty
  | _ => False
theorem isEmpty_kv {κ : Type} {kvs : List (κ × V)} {vs : List (κ × Value)} (r : KV kvs vs) : (!vs.isEmpty) = !kvs.isEmpty := by
  cases r <;> rfl
theorem isEmpty_of {xs : List V} {its : List Value} (r : Vals xs its) : (!its.toArray.isEmpty) = !xs.isEmpty := by
  cases r <;> simp
theorem line63 : (sizeLine : Nat) < 2 ^ 63 := by rw [sizeLine_eq]; decide
theorem tru_ok : TruR X (fun x H Q => ∃ k, TruV X.K x H k ∧ Q k H) := by
  intro pins s σ H x v Q I rx h
  obtain ⟨k, e, q⟩ := h
  have hl := line63
  have hs : sizeLine = 16777216 := sizeLine_eq
  cases x with
  | non =>
    cases rx
    have e' : k = false := e
    subst e'
    exact truthy_none ⟨H, I, q⟩
  | bl b =>
    cases rx
    have e' : k = b := e
    subst e'
    exact wpAny_truthy_bool ⟨H, I, q⟩
  | int i =>
    obtain ⟨t, rfl⟩ := rx
    have e' : k = (i != 0) := e
    subst e'
    exact PySem.P.truthy_int ⟨H, I, q⟩
  | str y =>
    obtain ⟨t, rfl⟩ := rx
    obtain ⟨hy, e'⟩ : y.length ≤ sizeLine ∧ k = ((y.length : Int) != 0) := e
    subst e'
    exact PySem.P.truthy_str (by omega) ⟨H, I.tok _, q⟩
  | byt y =>
    obtain ⟨t, rfl⟩ := rx
    obtain ⟨hy, e'⟩ : y.size ≤ sizeLine ∧ k = ((y.size : Int) != 0) := e
    subst e'
    exact PySem.W.truthy_bytes (by omega) ⟨H, I.tok _, q⟩
  | ref p =>
    cases rx
    have e' : (∃ xs, SqL X.K H p xs ∧ k = !xs.isEmpty) ∨ (∃ xs, SqT X.K H p xs ∧ k = !xs.isEmpty) ∨ ∃ kvs, H p = some (.dK kvs) ∧ k = !kvs.isEmpty := e
    rcases e' with ⟨xs, hx, e'⟩ | ⟨xs, hx, e'⟩ | ⟨kvs, hx, e'⟩
    · subst e'
      obtain ⟨its, r, pl, hz⟩ := I.list hx
      have hlen := r.length
      exact wpAny_truthy_list pl.isList (by simp only [List.size_toArray]; omega) ⟨H, I.tok _, by rw [isEmpty_of r]; exact q⟩
    · subst e'
      obtain ⟨its, r, pl, hz⟩ := I.tuple hx
      have hlen := r.length
      exact truthy_tuple pl (by simp only [List.size_toArray]; omega) ⟨H, I.tok _, by rw [isEmpty_of r]; exact q⟩
    · subst e'
      obtain ⟨hz, hS, vs, r, m⟩ : kvs.length ≤ sizeLine ∧ (p == sysModules) = false ∧ ∃ vs, KV kvs vs ∧ s.heap.DictOf (mixKind X.prog X.w) p vs := I.hok p _ hx
      have hlen : kvs.length = vs.length := Paired.length r
      exact wpAny_truthy_dict hS m (by omega) ⟨H, I.tok _, by rw [isEmpty_kv r]; exact q⟩
  | _ => exact (show False from e).elim
theorem pt_truth (ha : PE X a ta) (he : ∀ whole, isTrue a X.env whole = (do let v ← whole; standAt a.pos; holding [v] (truthy v))) :
    PT X a (fun σ H Q => ta σ H fun x H' => ∃ k, TruV X.K x H' k ∧ Q k H') := by
  intro pins s σ H Q I h
  exact isTrue_plain (thn (ha pins s σ H _ I h) fun v s1 ⟨x, H1, I1, r1, q1⟩ => tru_ok pins s1 σ H1 x v Q I1 r1 q1) (he _)
theorem op_add_str : OpR X (binaryOp .Add) (fun x y H Q => ∃ i j, x = .str i ∧ y = .str j ∧ i.length + j.length ≤ sizeLine ∧ Q (.str (i ++ j)) H) := by
  intro pins s σ H x y v u Q I rx ry h
  obtain ⟨i, j, rfl, rfl, hz, q⟩ := h
  obtain ⟨t, rfl⟩ := rx
  obtain ⟨t', rfl⟩ := ry
  exact add_str (fun t' tk => ⟨.str (i ++ j), H, I.tok _, ⟨_, rfl⟩, q⟩) hz
theorem vals1 {x : V} {us : List Value} (r : Vals [x] us) : ∃ u, us = [u] ∧ RelV x u := by
  cases r with
  | cons r1 r2 => cases r2; exact ⟨_, rfl, r1⟩
theorem vals2 {x y : V} {us : List Value} (r : Vals [x, y] us) : ∃ u w', us = [u, w'] ∧ RelV x u ∧ RelV y w' := by
  cases r with
  | cons r1 r2 =>
    cases r2 with
    | cons r3 r4 => cases r4; exact ⟨_, _, rfl, r1, r3⟩
theorem call_str_int : CallR X (.type "str") (fun xs H Q => ∃ i, xs = [.int i] ∧ i.natAbs.log2 < 1920 ∧ Q (.str (toString i)) H) := by
  intro pins s σ H xs us Q I r h
  obtain ⟨i, rfl, hz, q⟩ := h
  obtain ⟨u, rfl, t, rfl⟩ := vals1 r
  exact PySem.P.str_of_int hz ⟨.str _, H, I.tok _, ⟨_, rfl⟩, q⟩
end
end L2
namespace L2
open PySem PySem.Spec PyProof.Rows
structure ObjM (h : Heap) (x dx C : Addr) (mA : Str → Option Value) : Prop where
  obj : h.get? x = some (PySem.W.instObj C dx)
  ns : h.Ns1 dx mA
  ne : dx ≠ x
theorem lookIn_ns {h : Heap} {dx : Addr} {mA : Str → Option Value} (n : h.Ns1 dx mA) : ∃ od, h.get? dx = some od ∧ ∀ name, PySem.W.lookIn name od = some (mA name) := by
  obtain ⟨o, es, ep, ho, hd, hk, _, hm⟩ := n
  refine ⟨o, ho, fun name => ?_⟩
  have e := hm name
  unfold nsFind findBy at e
  rw [← Array.find?_toList] at e
  unfold PySem.W.lookIn
  rw [hd]
  dsimp only
  split
  · rename_i y q
    rw [q] at e
    exact congrArg some e
  · rename_i q
    rw [q] at e
    have a : es.toList.any (·.refKey) = false := by
      rw [List.any_eq_false]
      intro y hy
      obtain ⟨z, t, hkey⟩ := hk y (Array.mem_toList_iff.mp hy)
      simp [DictEntry.refKey, hkey]
    have a' : ¬ es.toList.any (·.refKey) = true := by rw [a]; exact Bool.false_ne_true
    rw [if_neg a']
    exact congrArg some e
theorem ObjM.look {h : Heap} {x dx C : Addr} {mA : Str → Option Value} (I : ObjM h x dx C mA) : ∃ od, PySem.W.InstAt h x (PySem.W.instObj C dx) C (some od) ∧ ∀ name, PySem.W.lookIn name od = some (mA name) :=
  let ⟨od, ho, hl⟩ := lookIn_ns I.ns
  ⟨od, ⟨I.obj, rfl, rfl, ho⟩, hl⟩
section
variable {prog : Program} {w : World} {A : Around} {E : Value → Shared → Prop} {s : Shared} {K : PySem.W.Frag} {x dx C f : Addr} {mA : Str → Option Value} {name : Str} {v : Value}
end
section
variable {P : Program} {w : World} {H H' : Hp} {h h' : Heap} {a C dx : Addr} {fs fs' : List (Str × V)}
theorem ins_get (hok : HOk P w H h) (e : H a = some (.ins C dx fs)) : ∃ mA, ObjM h a dx C mA ∧ (∀ f, RelO (fs.lookup f) (mA f)) ∧ PySem.Within mA (fs.map (·.1)) ∧ fs.length ≤ 1000 ∧ H dx = some (.own a) := by
  obtain ⟨d, z, ne, ob, mA, n, r, q⟩ := (show ObjOk P w H h a (.ins C dx fs) from hok a _ e)
  exact ⟨mA, ⟨ob, n, ne⟩, r, q, z, d⟩
end
structure Cls (K : PySem.W.Frag) (C : Addr) : Prop where
  pg : PySem.W.plainGet K C Str.empty = true
  hd : PySem.W.hasDictIn K C = true
  po : PySem.W.plainOver K C = true
  sa : PySem.W.findIn K (.ref C) "__setattr__" = some (some (.builtin "object.__setattr__"))
theorem Cls.get {K : PySem.W.Frag} {C : Addr} (c : Cls K C) (f : Str) : PySem.W.plainGet K C f = true := c.pg
section
variable {X : Cx} {pins : List (Addr × Obj)} {σ : St} {H : Hp} {s : Shared} {a C dx : Addr} {fs : List (Str × V)} {f : Str} {v : V} {A : Around} {E : Value → Shared → Prop}
end
section
variable {X : Cx} {o e value : Expr} {f : Str} {pos pos' tpos : Pos} {ta tv : TE}
end
section
variable {X : Cx} {pins : List (Addr × Obj)} {σ : St} {H : Hp} {s : Shared} {A : Around} {E : Value → Shared → Prop} {Q : Value → Shared → Prop} {c : Value} {b : Bool}
inductive TyOf (K : PySem.W.Frag) (H : Hp) : V → Value → Prop where
  | non : TyOf K H .non (.type "NoneType")
  | bl (x : Bool) : TyOf K H (.bl x) (.type "bool")
  | int (i : Int) : TyOf K H (.int i) (.type "int")
  | str (x : Str) : TyOf K H (.str x) (.type "str")
  | flt (x : UInt64) : TyOf K H (.flt x) (.type "float")
  | lst {a : Addr} {xs : List V} (e : H a = some (.lst xs)) : TyOf K H (.ref a) (.type "list")
  | frz {a : Addr} {o : Obj} {xs : List V} (e : H a = some (.frz o (.lst xs))) : TyOf K H (.ref a) (.type "list")
  | tup {a : Addr} {xs : List V} (e : H a = some (.tup xs)) : TyOf K H (.ref a) (.type "tuple")
  | dK {a : Addr} {kvs : List (Key × V)} (e : H a = some (.dK kvs)) : TyOf K H (.ref a) (.type "dict")
  | dT {a : Addr} {kvs : List (List Key × V)} (e : H a = some (.dT kvs)) : TyOf K H (.ref a) (.type "dict")
  | ins {a C dx : Addr} {fs : List (Str × V)} (e : H a = some (.ins C dx fs)) (cl : Cls K C) (ha : PySem.W.findIn K (.ref C) "__class__" = some (some (.builtin "object.__class__")))
      (hn : PySem.W.specialIn K (.builtin "object.__class__") "__get__" = some (some (.builtin "getset_descriptor.__get__"))) (htk : PySem.W.takesIn K (.builtin "object.__class__") = some true)
      (hm : PySem.W.mroIn K C (.type "object") = some true) : TyOf K H (.ref a) (.ref C)
theorem isinst_ok {x : V} {u t : Value} (I : Inv X pins σ H s) (rx : RelV x u) (ty : TyOf X.K H x t) (e : PySem.W.kitOne X.K t c = some b) (h : ∀ tk, Q (.bool b) { s with toks := tk }) :
    wpAny (model X.prog X.w) A (call (.builtin "isinstance") [u, c]) Q E s := by
  cases ty with
  | non => cases (show u = Value.none from rx); exact PySem.W.kia_one PySem.W.kitx_none I.kIn True.intro e (fun z => nomatch z) h
  | bl y => cases (show u = Value.bool y from rx); exact PySem.W.kia_one PySem.W.kitx_bool I.kIn True.intro e (fun z => nomatch z) h
  | int i => obtain ⟨t, q⟩ := (show ∃ t, u = Value.int i t from rx); cases q; exact PySem.W.kia_one PySem.W.kitx_int I.kIn True.intro e (fun z => nomatch z) h
  | str y => obtain ⟨t, q⟩ := (show ∃ t, u = Value.str y t from rx); cases q; exact PySem.W.kia_one PySem.W.kitx_str I.kIn True.intro e (fun z => nomatch z) h
  | flt y => obtain ⟨t, q⟩ := (show ∃ t, u = Value.float y t from rx); cases q; exact PySem.W.kia_one PySem.W.kitx_float I.kIn True.intro e (fun z => nomatch z) h
  | @lst a xs ea =>
    cases (show u = Value.ref a from rx)
    obtain ⟨_, _, n, _, h1⟩ := (show ObjOk X.prog X.w H s.heap a (.lst xs) from I.hok a _ ea)
    exact PySem.W.kia_one PySem.W.kitx_list I.kIn ⟨_, h1, rfl⟩ e (fun z => nomatch z) h
  | @frz a ob xs ea =>
    cases (show u = Value.ref a from rx)
    obtain ⟨_, _, _, n, _, h1⟩ := (show ObjOk X.prog X.w H s.heap a (.frz ob (.lst xs)) from I.hok a _ ea)
    exact PySem.W.kia_one PySem.W.kitx_list I.kIn ⟨_, h1, rfl⟩ e (fun z => nomatch z) h
  | @tup a xs ea =>
    cases (show u = Value.ref a from rx)
    obtain ⟨_, _, _, p⟩ := (show ObjOk X.prog X.w H s.heap a (.tup xs) from I.hok a _ ea)
    obtain ⟨o, h1, h2, _⟩ := p
    exact PySem.W.kia_one PySem.W.kitx_tuple I.kIn ⟨o, h1, h2⟩ e (fun z => nomatch z) h
  | @dK a kvs ea =>
    cases (show u = Value.ref a from rx)
    obtain ⟨_, _, vs, _, p⟩ := (show ObjOk X.prog X.w H s.heap a (.dK kvs) from I.hok a _ ea)
    obtain ⟨o, es, ep, h1, h2, _⟩ := p
    exact PySem.W.kia_one PySem.W.kitx_dict I.kIn ⟨o, h1, h2.1⟩ e (fun z => nomatch z) h
  | @dT a kvs ea =>
    cases (show u = Value.ref a from rx)
    obtain ⟨_, _, xs, _, o, es, ep, h1, h2, _⟩ := (show ObjOk X.prog X.w H s.heap a (.dT kvs) from I.hok a _ ea)
    exact PySem.W.kia_one PySem.W.kitx_dict I.kIn ⟨o, h1, h2.1⟩ e (fun z => nomatch z) h
  | @ins a C dx fs ea cl ha hn htk hm =>
    cases (show u = Value.ref a from rx)
    obtain ⟨mA, O, _⟩ := ins_get I.hok ea
    obtain ⟨od, J, _⟩ := O.look
    exact PySem.W.kia_one (PySem.W.kitx_own (cl.get _) cl.hd ha hn htk hm) I.kIn J e (fun z => nomatch z) h
end
end L2
namespace L2
open PySem PySem.Spec PyProof.Rows
structure Room (k : Nat) (A : Around) : Prop where
  hd : A.handled = none
  dp : A.depth + 3 * k + 5 < recursionLimit
  un : A.units + 16 * k + 200 < cLine
theorem Room.mono {j k : Nat} {A : Around} (r : Room k A) (h : j ≤ k) : Room j A := ⟨r.hd, by have := r.dp; omega, by have := r.un; omega⟩
theorem Room.deeper {k : Nat} {A : Around} (r : Room (k + 1) A) (env : Env) : Room k (A.deeper env) :=
  ⟨r.hd, by have := r.dp; show A.depth + 1 + 3 * k + 5 < _; omega, by have := r.un; show A.units + 3 + 16 * k + 200 < _; omega⟩
theorem Room.depth {k : Nat} {A : Around} (r : Room k A) : A.depth < recursionLimit := by have := r.dp; omega
theorem Room.units {k : Nat} {A : Around} (r : Room k A) : A.units + 64 < cLine := by have := r.un; omega
def tNil : TA := fun _ H Q => Q [] H
def tCons (ta : TE) (tr : TA) : TA := fun σ H Q => ta σ H fun x H1 => tr σ H1 fun xs H2 => Q (x :: xs) H2
section
variable {X : Cx} {e : Expr} {es : List Expr} {te : TE} {t : TA} {pos : Pos}
theorem pa_nil : PA X [] tNil := fun _ _ _ _ H Q I h => Calls.spliced_nil ⟨[], H, I, .nil, h⟩
theorem pa_cons (ha : PE X e te) (hr : PA X es t) (hs : starEach (e :: es) X.env = (false, eval e X.env) :: starEach es X.env := by rfl) : PA X (e :: es) (tCons te t) := by
  intro pos pins s σ H Q I h
  rw [hs]
  show wpAny _ _ (spliced ((false, eval e X.env) :: backTo pos (starEach es X.env))) _ _ s
  refine Calls.spliced_cons (thn (ha pins s σ H _ I h) fun u s1 ⟨x, H1, I1, r1, q1⟩ => ?_)
  exact thn (hr pos pins s1 σ H1 _ I1 q1) fun us s2 ⟨xs, H2, I2, r2, q2⟩ => ⟨x :: xs, H2, I2, .cons r1 r2, q2⟩
def tTup (t : TA) : TE := fun σ H Q => t σ H fun xs H1 => xs.length ≤ sizeLine ∧ ∀ p, H1 p = none → Q (.ref p) (upd H1 p (.tup xs))
def tLst (t : TA) : TE := fun σ H Q => t σ H fun xs H1 => xs.length ≤ sizeLine ∧ ∀ p, H1 p = none → Q (.ref p) (upd H1 p (.lst xs))
theorem pe_tup {x1} (h : PA X es t) : PE X (.Tuple es x1 pos) (tTup t) := by
  intro pins s σ H Q I hq
  refine wpAny_Tuple_spliced (thn (h pos pins s σ H _ I hq) fun us s1 ⟨xs, H1, I1, r, z, q⟩ => ⟨by rw [← r.length]; exact z, ?_⟩)
  have hf : H1 s1.heap.objs.size = none := I1.hok.fresh (Nat.le_refl _)
  refine ⟨.ref s1.heap.objs.size, upd H1 s1.heap.objs.size (.tup xs), I1.laid (t' := s1.toks) (fun b u e => Heap.get?_push_of_some _ e) (Nat.le_refl _) ?_, rfl, q _ hf⟩
  exact ⟨z, us, r, ⟨_, Heap.get?_push_size _ rfl, rfl, _, rfl⟩⟩
theorem pe_lst (h : PA X es t) : PE X (.List es pos) (tLst t) := by
  intro pins s σ H Q I hq
  refine wpAny_List_spliced (thn (h pos pins s σ H _ I hq) fun us s1 ⟨xs, H1, I1, r, z, q⟩ => ⟨by rw [← r.length]; exact z, ?_⟩)
  have hf : H1 s1.heap.objs.size = none := I1.hok.fresh (Nat.le_refl _)
  refine ⟨.ref s1.heap.objs.size, upd H1 s1.heap.objs.size (.lst xs), I1.laid (t' := s1.toks) (fun b u e => Heap.get?_push_of_some _ e) (Nat.le_refl _) ?_, rfl, q _ hf⟩
  exact ⟨z, us, 0, r, Heap.get?_push_size _ rfl⟩
end
abbrev Sp := List V → Hp → VK → XK → Prop
abbrev CXT := List Env → Hp → Shared → XK → Value → Shared → Prop
structure Env0 (P : Program) (w : World) (K : PySem.W.Frag) (mg : Str → Option Value) (base : Heap) (A : Around) (outer : List Env) (s : Shared) (H : Hp) : Prop where
  frames : A.frames = some outer
  mod : Mod K mg base
  bs : ∀ b o, base.get? b = some o → s.heap.get? b = some o ∧ H b = none
  bsz : base.objs.size ≤ s.heap.objs.size
  funs : s.heap.FunFrames base outer
  frf : ∀ b ∈ frs outer, H b = none
  hok : HOk P w H s.heap
  bare : AllBare s.gens
def CE (outer : List Env) (P : Program) (w : World) (H : Hp) (s : Shared) (Q : VK) (u : Value) (s' : Shared) : Prop :=
  ∃ v H', s'.os = s.os ∧ AllBare s'.gens ∧ Un (frs outer) [] H H' s.heap s'.heap ∧ HOk P w H' s'.heap ∧ RelV v u ∧ Q v H'
def CR (CX : CXT) (outer : List Env) (P : Program) (w : World) (H : Hp) (s : Shared) (Q : VK) (E : XK) (r : Result) (s' : Shared) : Prop :=
  match r with
  | .ok (.ret u) => CE outer P w H s Q u s'
  | .ok _ => False
  | .error e => CX outer H s E e s'
structure FnOk (P : Program) (w : World) (K : PySem.W.Frag) (mg : Str → Option Value) (base : Heap) (CX : CXT) (k : Nat) (f : Addr) (fd : FuncData) (ps : List Str) (sp : Sp) : Prop where
  len : ∀ vs H Q E, sp vs H Q E → vs.length = ps.length
  run : ∀ (A : Around) (outer : List Env) (s : Shared) (H : Hp) (args : Args) (us : List Value) (vs : List V) (Q : VK) (E : XK), Room k A → Env0 P w K mg base A outer s H → BindsTo s fd args (ps.zip us) → Vals vs us → sp vs H Q E →
    codeAny (model P w) A (.call (.ref f) args) (CR CX outer P w H s Q E) s
section
variable {X : Cx} {pins : List (Addr × Obj)} {σ : St} {H : Hp} {s s' : Shared}
theorem Inv.env0 (I : Inv X pins σ H s) : Env0 X.prog X.w X.K X.mg X.base X.A X.stack s H :=
  ⟨I.ok.frames, I.ok.mod, I.bs, Nat.le_trans I.ok.bsz I.sz, I.stack, I.stkFree, I.hok, I.bare⟩
theorem Inv.after {Q : VK} {u : Value} (I : Inv X pins σ H s) (h : CE X.stack X.prog X.w H s Q u s') : EP X pins σ Q u s' := by
  obtain ⟨v, H', os, bare, un, hok, r, q⟩ := h
  obtain ⟨hh, g, d, t, os'⟩ := s'
  obtain rfl : os' = s.os := os
  exact ⟨v, H', I.call (h' := hh) (g' := g) (d' := d) (t' := t) (ch := []) un hok bare (fun b z => absurd z (by simp)), r, q⟩
end
def tCall (sp : Sp) (dvs : List V) (E : XK) (t : TA) : TE := fun σ H Q => t σ H fun vs H1 => sp (vs ++ dvs) H1 Q E
def Binds (K : PySem.W.Frag) (fd : FuncData) (ps : List Str) (ds : List Value) : Prop :=
  ∀ (s : Shared) (us : List Value), K.In s.heap → (us ++ ds).length = ps.length → BindsTo s fd ⟨us, []⟩ (ps.zip (us ++ ds))
theorem Binds.all {K : PySem.W.Frag} {fd : FuncData} {ps : List Str} (h : ∀ us : List Value, us.length = ps.length → bindArgs fd ⟨us, []⟩ = pure (ps.zip us)) : Binds K fd ps [] := fun s us _ hl => by
  rw [List.append_nil] at hl ⊢
  exact .of_eq (h us hl)
def Passes (CX : CXT) (X : Cx) (E : XK) : Prop := ∀ (pins : List (Addr × Obj)) (σ : St) (H : Hp) (s : Shared) (e : Value) (s' : Shared), Inv X pins σ H s → CX X.stack H s E e s' → X.xe e s'
section
variable {X : Cx} {CX : CXT} {k : Nat} {f C : Addr} {fd : FuncData} {ps : List Str} {sp : Sp} {dvs : List V} {ds : List Value} {E : XK} {x m : Str} {p pos apos : Pos} {e o : Expr} {es : List Expr} {ta : TE} {t : TA}
theorem run_fn {pins : List (Addr × Obj)} {σ : St} {H : Hp} {s : Shared} {Q : VK} {us : List Value} {vs : List V} (F : FnOk X.prog X.w X.K X.mg X.base CX k f fd ps sp) (hr : Room k X.A) (hb : Binds X.K fd ps ds) (hd : Vals dvs ds) (hx : Passes CX X E)
    (I : Inv X pins σ H s) (r : Vals vs us) (h : sp (vs ++ dvs) H Q E) : wpAny (model X.prog X.w) X.A (call (.ref f) us) (EP X pins σ Q) X.xe s := by
  have r2 : Vals (vs ++ dvs) (us ++ ds) := r.append hd
  have hl : (us ++ ds).length = ps.length := by rw [← r2.length]; exact F.len _ _ _ _ h
  refine wpAny_call (codeAny_mono (F.run X.A X.stack s H ⟨us, []⟩ (us ++ ds) (vs ++ dvs) Q E hr I.env0 (hb s us I.kIn hl) r2 h) fun r s' hq => ?_)
  cases r with
  | error e => exact hx pins σ H s e s' I hq
  | ok fl =>
    cases fl with
    | ret u => exact I.after hq
    | next => exact False.elim hq
    | brk => exact False.elim hq
    | cont => exact False.elim hq
theorem pe_call (F : FnOk X.prog X.w X.K X.mg X.base CX k f fd ps sp) (hr : Room k X.A) (hg : Gl X x) (hm : X.mg x = some (.ref f)) (hk : PySem.W.keepIn X.K (.ref f) = true) (hb : Binds X.K fd ps ds) (hd : Vals dvs ds) (hx : Passes CX X E)
    (ha : PA X (e :: es) t) (hdb : (x == ("__debug__" : Str)) = false := by decide) (he : starEach (e :: es) X.env = (false, eval e X.env) :: starEach es X.env := by rfl) (hpl : (backTo pos (starEach es X.env)).any (·.1) = false := by rfl) :
    PE X (.Call (.Name x p) (e :: es) [] pos) (tCall sp dvs E t) := by
  intro pins s σ H Q I h
  refine wpAny_Call_Name_kw (ld_glob I hg hm ?_ hdb)
  refine PySem.W.callWith_K (h₀ := X.base) I.ok.mod.kin hk (thn (ha pos pins s σ H _ I h) fun us s1 ⟨vs, H1, I1, r, q⟩ => ⟨I1.kIn, ?_⟩) he hpl
  exact run_fn F hr hb hd hx I1 r q
end
section
variable {X : Cx} {CX : CXT} {k : Nat} {f C : Addr} {fd : FuncData} {ps ks : List Str} {sp : Sp} {E : XK} {x m : Str} {p pos apos kpos : Pos} {e o : Expr} {es : List Expr} {kws : List Keyword} {te ta : TE} {t tk : TA} {nm : Option Str}
variable {g : List Value → List Value → List Value} {gV : List V → List V → List V}
end
structure FnScope (N P : List Str) (sc : Scope) : Prop where
  kind : sc.kind = .function
  co : sc.isCoroutine = false
  gen : sc.isGenerator = false
  nd : N.Nodup
  pre : N.take P.length = P
  par : ∀ x ∈ P, sc.names.lookup x = some .local ∨ sc.names.lookup x = some .cell
  nofree : ∀ y ∈ sc.names, y.2 ≠ .free
theorem bindL_out {kindOf : Str → Option NameKind} {x : Str} : ∀ {binds : List (Str × Value)} {m : Str → Option Value}, (∀ v, (x, v) ∉ binds) → bindL kindOf binds m x = m x
  | [], _, _ => rfl
  | (n, v) :: r, m, h => by
    unfold bindL
    rw [bindL_out fun w hw => h w (List.mem_cons_of_mem _ hw)]
    split
    · have : x ≠ n := by rintro rfl; exact h v List.mem_cons_self
      simp [this]
    · rfl
theorem bindC_out {kindOf : Str → Option NameKind} {x : Str} : ∀ {binds : List (Str × Value)} {m : Str → Option Value}, (∀ v, (x, v) ∉ binds) → bindC kindOf binds m x = m x
  | [], _, _ => rfl
  | (n, v) :: r, m, h => by
    unfold bindC
    rw [bindC_out fun w hw => h w (List.mem_cons_of_mem _ hw)]
    split
    · rfl
    · have : x ≠ n := by rintro rfl; exact h v List.mem_cons_self
      simp [this]
theorem bindL_get {kindOf : Str → Option NameKind} {x : Str} {v : Value} : ∀ {P : List Str} {vs : List Value} {i : Nat} {m : Str → Option Value}, P.Nodup → P[i]? = some x → vs[i]? = some v → kindOf x = some .local →
    bindL kindOf (P.zip vs) m x = some v
  | [], _, _, _, _, h, _, _ => by simp at h
  | _ :: _, [], _, _, _, _, h, _ => by simp at h
  | p :: P, w :: vs, 0, m, nd, h1, h2, hk => by
    simp at h1 h2; subst h1; subst h2
    show bindL kindOf ((p, w) :: P.zip vs) m p = _
    unfold bindL
    rw [bindL_out fun v hv => (List.nodup_cons.mp nd).1 (List.of_mem_zip hv).1, if_pos hk]
    simp
  | p :: P, w :: vs, i + 1, m, nd, h1, h2, hk => by
    show bindL kindOf ((p, w) :: P.zip vs) m x = _
    unfold bindL
    exact bindL_get (i := i) (List.nodup_cons.mp nd).2 (by simpa using h1) (by simpa using h2) hk
theorem bindC_get {kindOf : Str → Option NameKind} {x : Str} {v : Value} : ∀ {P : List Str} {vs : List Value} {i : Nat} {m : Str → Option Value}, P.Nodup → P[i]? = some x → vs[i]? = some v → kindOf x ≠ some .local →
    bindC kindOf (P.zip vs) m x = some v
  | [], _, _, _, _, h, _, _ => by simp at h
  | _ :: _, [], _, _, _, _, h, _ => by simp at h
  | p :: P, w :: vs, 0, m, nd, h1, h2, hk => by
    simp at h1 h2; subst h1; subst h2
    show bindC kindOf ((p, w) :: P.zip vs) m p = _
    unfold bindC
    rw [bindC_out fun v hv => (List.nodup_cons.mp nd).1 (List.of_mem_zip hv).1, if_neg hk]
    simp
  | p :: P, w :: vs, i + 1, m, nd, h1, h2, hk => by
    show bindC kindOf ((p, w) :: P.zip vs) m x = _
    unfold bindC
    exact bindC_get (i := i) (List.nodup_cons.mp nd).2 (by simpa using h1) (by simpa using h2) hk
def start (N : List Str) (vs : List V) : St := vs.map some ++ List.replicate (N.length - vs.length) none
def cxOf (CX : CXT) (P : Program) (w : World) (K : PySem.W.Frag) (mg : Str → Option Value) (base : Heap) (N : List Str) (qual : Str) (scope : Scope) (f : Addr) (cd : Value) (A : Around) (outer : List Env) (s : Shared) (H : Hp) (E : XK) : Cx where
  prog := P
  w := w
  K := K
  mg := mg
  base := base
  A := A.deeper (envOfC qual scope s.heap.objs.size f cd)
  N := N
  s₀ := s
  H₀ := H
  env := envOfC qual scope s.heap.objs.size f cd
  outer := outer
  stack := envOfC qual scope s.heap.objs.size f cd :: outer
  ex := []
  calm := true
  fn := fun _ => true
  pn := []
  xe := fun e s' => wpAny (model P w) (A.deeper (envOfC qual scope s.heap.objs.size f cd)) (leaving (envOfC qual scope s.heap.objs.size f cd) e) (fun _ s'' => CX outer H s E e s'') (fun e' s'' => CX outer H s E e' s'') s'
theorem cell_has {sc : Scope} {n : Nat} {x : Str} (h : sc.names.lookup x = some .cell) : ∃ c, (cellsFrom n sc.names []).lookup x = some c := by
  have q := PySem.W.cellsFrom_some sc.names n [] (.inl h)
  exact Option.isSome_iff_exists.mp q
theorem inv_start {CX : CXT} {P : Program} {w : World} {K : PySem.W.Frag} {mg : Str → Option Value} {base : Heap} {N ps : List Str} {qual : Str} {scope : Scope} {f : Addr} {cd : Value} {A : Around} {outer : List Env} {s s1 : Shared} {H : Hp} {E : XK} {us : List Value} {vs : List V}
    (S : FnScope N ps scope) (hd : A.handled = none) (e0 : Env0 P w K mg base A outer s H) (hl : vs.length = ps.length) (r : Vals vs us)
    (x : InCallC s s.heap.objs.size (bindL (envOfC qual scope s.heap.objs.size f cd).kindOf (ps.zip us) fun _ => none) (cellsFrom (s.heap.objs.size + 1) scope.names []) (bindC (envOfC qual scope s.heap.objs.size f cd).kindOf (ps.zip us) fun _ => none) s1) :
    Inv (cxOf CX P w K mg base N qual scope f cd A outer s H E) [] (start N vs) H s1 := by
  have hpl : ps.length ≤ N.length := by have := congrArg List.length S.pre; rw [List.length_take] at this; omega
  obtain ⟨h1, tk, rfl, hk⟩ := x.done
  have noA : ∀ b : Addr, b ∉ (cxOf CX P w K mg base N qual scope f cd A outer s H E).ex := fun b z => absurd (show b ∈ ([] : List Addr) from z) (by simp)
  refine ⟨⟨e0.mod, S.kind, rfl, rfl, Nat.le_refl _, fun y z c h1 h2 => ?_, fun y hy => ?_, fun y c _ h => ?_, fun _ => hd, Around.frames_deeper e0.frames, .inr ⟨rfl, rfl⟩, fun b z => absurd z (noA b), e0.bs, e0.bsz, fun b _ _ => noA b, fun b z => absurd z (noA b), e0.funs, e0.frf⟩,
    rfl, e0.bare, Un.kept hk, ⟨_, x.toInCall.ns, fun i y v h1 h2 h3 => ?_⟩, fun y c h => ⟨_, x.cell y c h⟩, e0.hok.fresh (Nat.le_refl _), fun y c h => ?_, fun p hp => absurd (show p ∈ ([] : List (Addr × Obj)) from hp) (by simp), e0.hok.kept hk, ?_⟩
  · exact name_of_addr x.apart (PySem.mem_of_lookup h1) (PySem.mem_of_lookup h2)
  · have hy : scope.names.lookup y = some .cell ∨ scope.names.lookup y = some .free := hy
    rcases hy with hy | hy
    · exact cell_has hy
    · exact absurd rfl (S.nofree _ (PySem.mem_of_lookup hy))
  · exact Nat.le_of_lt (x.above y c (PySem.mem_of_lookup h))
  · have hi : i < vs.length := by
      unfold start at h2
      by_cases hi : i < vs.length
      · exact hi
      · rw [List.getElem?_append_right (by simpa using hi)] at h2
        rw [List.getElem?_replicate] at h2
        split at h2 <;> cases h2
    have ha : vs[i]? = some v := by
      unfold start at h2
      rw [List.getElem?_append_left (by simpa using hi), List.getElem?_map] at h2
      cases e : vs[i]? with
      | none => rw [e] at h2; cases h2
      | some a => rw [e] at h2; cases h2; rfl
    obtain ⟨u, hu, rv⟩ := r.get ha
    have hp : ps[i]? = some y := by
      rw [← S.pre, List.getElem?_take_of_lt (by omega)]; exact h1
    have ndP : ps.Nodup := by rw [← S.pre]; exact S.nd.sublist (List.take_sublist _ _)
    refine ⟨u, rv, ?_⟩
    rcases S.par y (List.mem_of_getElem? hp) with k | k
    · exact .inl ⟨k, bindL_get ndP hp hu k⟩
    · obtain ⟨c, e⟩ := cell_has (n := s.heap.objs.size + 1) k
      refine .inr ⟨.inl k, c, e, ?_⟩
      have q := x.cell y c e
      rw [bindC_get ndP hp hu (by show scope.names.lookup y ≠ _; rw [k]; decide)] at q
      exact q
  · exact e0.hok.fresh (Nat.le_of_lt (x.above y c (PySem.mem_of_lookup h)))
  · unfold start
    show _ = N.length
    rw [List.length_append, List.length_map, List.length_replicate]
    omega
theorem fn_of {CX : CXT} {P : Program} {w : World} {K : PySem.W.Frag} {mg : Str → Option Value} {base : Heap} {k : Nat} {f : Addr} {name qual : Str} {params : Arguments} {body : List Stmt} {scope : Scope} {dV kV doc pm cdv ct oc : Value} {an od : Option Addr}
    {osl : Array (Option Value)} {N ps : List Str} {sp : Sp} (lk : K.lookup f = some ⟨oc, od, .func (PySem.W.fnOf name qual params body scope dV kV doc pm an cdv ct), osl⟩) (hcd : PySem.W.codeIn K cdv qual = true) (S : FnScope N ps scope)
    (len : ∀ vs H Q E, sp vs H Q E → vs.length = ps.length)
    (hbody : ∀ (A : Around) (outer : List Env) (s : Shared) (H : Hp) (vs : List V) (Q : VK) (E : XK), Room k (A.deeper (envOfC qual scope s.heap.objs.size f cdv)) → sp vs H Q E →
      ∃ t, PSs (cxOf CX P w K mg base N qual scope f cdv A outer s H E) body t ∧ t { nx := fun _ H' => Q .non H', rt := Q } (start N vs) H) :
    FnOk P w K mg base CX (k + 1) f (PySem.W.fnOf name qual params body scope dV kV doc pm an cdv ct) ps sp := by
  refine ⟨len, fun A outer s H args us vs Q E hr e0 hb r hsp => ?_⟩
  have hl := len _ _ _ _ hsp
  have KX : K.In s.heap := e0.mod.kin.keeps fun b o e => (e0.bs b o e).1
  have lim : s.heap.NoLimit := e0.mod.nolimit.keeps fun b o e => (e0.bs b o e).1
  have hkind : ∀ y ∈ ps.zip us, scope.names.lookup y.1 = some .local ∨ (scope.names.lookup y.1 = some .cell ∧ ((cellsFrom (s.heap.objs.size + 1) scope.names []).lookup y.1).isSome = true) := fun ⟨n, v⟩ hy => by
    rcases S.par n (List.of_mem_zip hy).1 with q | q
    · exact .inl q
    · exact .inr ⟨q, PySem.W.cellsFrom_some _ _ _ (.inl q)⟩
  refine codeAny_call_function hr.depth (KX _ _ lk) rfl S.co S.gen rfl (PySem.W.codeRec_of KX hcd) (hb _ _ _ _ ?_)
  refine wpAny_newFunctionEnv_cells S.kind hkind fun env he s1 x => ?_
  subst he
  refine ⟨lim.keeps x.toInCall.keep, codeAny_func ?_⟩
  obtain ⟨t, ht, hq⟩ := hbody A outer s H vs Q E (hr.deeper _) hsp
  have I : Inv (cxOf CX P w K mg base N qual scope f cdv A outer s H E) [] (start N vs) H s1 := inv_start S hr.hd e0 hl r x
  refine wpAny_mono (ht [] s1 (start N vs) H _ I hq) (fun fl s' hs => ?_) fun e s' hs => hs
  have fin : ∀ {σ' : St} {H' : Hp} {v : V} {u : Value}, Inv (cxOf CX P w K mg base N qual scope f cdv A outer s H E) [] σ' H' s' → RelV v u → Q v H' → CE outer P w H s Q u s' :=
    fun {σ' H' v u} J rv q => ⟨v, H', J.os, J.bare, J.base, J.hok, rv, q⟩
  cases fl with
  | ret u =>
    obtain ⟨v, σ', H', J, rv, q⟩ := hs
    exact fin J rv q
  | next =>
    obtain ⟨σ', H', J, q⟩ := hs
    exact fin (v := V.non) (u := Value.none) J rfl q
  | brk =>
    obtain ⟨_, _, _, q⟩ := hs
    exact False.elim q
  | cont =>
    obtain ⟨_, _, _, q⟩ := hs
    exact False.elim q
end L2
namespace L2
open PySem PySem.Spec PyProof.Rows
section
variable {X : Cx} {x : Str} {p pos : Pos} {e : Expr} {es : List Expr} {t : TA} {id T : String} {r : List V → Hp → VK → Prop}
def tCB (r : List V → Hp → VK → Prop) (t : TA) : TE := fun σ H Q => t σ H fun vs H1 => r vs H1 Q
theorem pe_callB (hc : CallR X (.builtin id) r) (hg : Gl X x) (hm : X.mg x = none) (hv : bootBuiltins x = some (.builtin id)) (ha : PA X (e :: es) t) (hn : x ≠ "__name__" := by decide) (hdb : (x == ("__debug__" : Str)) = false := by decide)
    (he : starEach (e :: es) X.env = (false, eval e X.env) :: starEach es X.env := by rfl) (hpl : (backTo pos (starEach es X.env)).any (·.1) = false := by rfl) : PE X (.Call (.Name x p) (e :: es) [] pos) (tCB r t) := by
  intro pins s σ H Q I h
  refine wpAny_Call_Name_kw (ld_blt I hg hm hv ?_ hn hdb)
  exact PyProof.Rows.callWith_builtin1 (thn (ha pos pins s σ H _ I h) fun us s1 ⟨vs, H1, I1, r1, q1⟩ => hc pins s1 σ H1 vs us Q I1 r1 q1) he hpl
theorem pe_callTy (hc : CallR X (.type T) r) (hg : Gl X x) (hm : X.mg x = none) (hv : bootBuiltins x = some (.type T)) (ha : PA X (e :: es) t) (hn : x ≠ "__name__" := by decide) (hdb : (x == ("__debug__" : Str)) = false := by decide)
    (he : starEach (e :: es) X.env = (false, eval e X.env) :: starEach es X.env := by rfl) (hpl : (backTo pos (starEach es X.env)).any (·.1) = false := by rfl) : PE X (.Call (.Name x p) (e :: es) [] pos) (tCB r t) := by
  intro pins s σ H Q I h
  refine wpAny_Call_Name_kw (ld_blt I hg hm hv ?_ hn hdb)
  exact PyProof.Rows.callWith_type1 (thn (ha pos pins s σ H _ I h) fun us s1 ⟨vs, H1, I1, r1, q1⟩ => hc pins s1 σ H1 vs us Q I1 r1 q1) he hpl
end
end L2
namespace HT
open PySem PyProof.Rows
def lexLt : List Int → List Int → Bool
  | [], [] => false
  | [], _ :: _ => true
  | _ :: _, [] => false
  | x :: xs, y :: ys => if x = y then lexLt xs ys else decide (x < y)
theorem lexLt_cons (x y : Int) (xs ys : List Int) : lexLt (x :: xs) (y :: ys) = if x = y then lexLt xs ys else decide (x < y) := rfl
theorem lexLt_nil_nil : lexLt [] [] = false := rfl
theorem lexLt_nil_cons (y : Int) (ys : List Int) : lexLt [] (y :: ys) = true := rfl
theorem lexLt_cons_nil (x : Int) (xs : List Int) : lexLt (x :: xs) [] = false := rfl
theorem eqAt_int (A : Around) (s : Shared) (a : Int) (t : Tok) (c : Int) (u : Tok) : ∃ e, SeqAt.EqAt A s (.int a t) (.int c u) e ∧ (e = true ↔ a = c) :=
  ⟨(a == c), SeqAt.EqAt.int_int a t c u, by simp⟩
theorem rcLt_int (A : Around) (s : Shared) (a : Int) (t : Tok) (c : Int) (u : Tok) (prog : Program) (w : World) (E : Value → Shared → Prop) (Q : Value → Shared → Prop) (h : Q (.bool (decide (a < c))) s) :
    wpAny (model prog w) A (richCompare .Lt (.int a t) (.int c u)) Q E s :=
  (PyProof.Rows.lt_int h : wpAny (model prog w) A (compareOp .Lt (.int a t) (.int c u)) Q E s)
section
open PySem.SeqAt
open PySem.AutoSeq1 (wpAny_loadPart')
open PySem.MeetsSeq PySem.MeetsSeq2 PySem.MeetsSeq3
theorem tuple_lt_ints (l b : Addr) (items items2 : Array Value) (n n2 : Nat) (dd dd2 : Option Addr) (sl sl2 : Array (Option Value)) (ns ms : List Int) (hi : IntsAre items.toList ns) (hj : IntsAre items2.toList ms) :
    Meets (Builtin.«tuple.__lt__» ⟨[.ref l, .ref b], []⟩)
      (fun _ R s => s.heap.get? l = some { cls := .type "tuple", dict := dd, data := .seq items n, slots := sl } ∧ s.heap.get? b = some { cls := .type "tuple", dict := dd2, data := .seq items2 n2, slots := sl2 } ∧
        R (.ok (.ret (.bool (lexLt ns ms)))) s) :=
  .of_wp fun prog w A R s h => by
    obtain ⟨hp, g, d, tk, os⟩ := s; obtain ⟨hl, hb, h⟩ := h
    have f2 := AutoSeq1.sub_tuple_tuple
    have z1 : items.size = ns.length := by rw [← hi.length]; simp
    have z2 : items2.size = ms.length := by rw [← hj.length]; simp
    wp_walk using wpAny_loadPart' hl, wpAny_loadPart' hb, wpAny_forIn_list _ (fun rest b s' => b.1 = none ∧ s' = ⟨hp, g, d, tk, os⟩ ∧ ∃ (vs ws : List Value) (ns' ms' : List Int), rest = vs.zip ws ∧
      IntsAre vs ns' ∧ IntsAre ws ms' ∧ ns'.length + items2.size = ms'.length + items.size ∧ R (.ok (.ret (.bool (lexLt ns' ms')))) ⟨hp, g, d, tk, os⟩) _
    case turn =>
      rintro ⟨y, x⟩ rest b s' ⟨hb', rfl, vs, ws, ns', ms', hz, hvi, hwi, hlen, hR⟩
      cases hvi with
      | nil => rw [List.zip_nil_left] at hz; cases hz
      | cons a t hvi' =>
        cases hwi with
        | nil => rw [List.zip_nil_right] at hz; cases hz
        | cons c u hwi' =>
          rw [List.zip_cons_cons] at hz
          injection hz with hyx hrest
          injection hyx with hy hx
          subst hy hx
          rw [lexLt_cons] at hR
          simp only [List.length_cons] at hlen
          obtain ⟨e, he, hiff⟩ := eqAt_int A.in1 ⟨hp, g, d, tk, os⟩ a t c u
          refine wpAny_bind (he prog w _ _ ?_)
          cases e with
          | true =>
            rw [if_pos (hiff.mp rfl)] at hR
            wp_walk
            exact ⟨rfl, rfl, _, _, _, _, hrest, hvi', hwi', by omega, hR⟩
          | false =>
            rw [if_neg (fun q => absurd (hiff.mpr q) Bool.false_ne_true)] at hR
            have hri := rcLt_int A.in1 ⟨hp, g, d, tk, os⟩ a t c u prog w
            wp_walk using hri
            exact ⟨_, rfl, by simpa using hR⟩
    case fin =>
      rintro ⟨b1, b2⟩ s' ⟨hb', rfl, vs, ws, ns', ms', hz, hvi, hwi, hlen, hR⟩
      simp only at hb'
      subst hb'
      have hv : lexLt ns' ms' = decide (items.size < items2.size) := by
        cases hvi with
        | nil =>
          cases hwi with
          | nil =>
            simp only [List.length_nil] at hlen
            rw [lexLt_nil_nil]
            exact (decide_eq_false (by omega)).symm
          | cons c u hw =>
            simp only [List.length_nil, List.length_cons] at hlen
            rw [lexLt_nil_cons]
            exact (decide_eq_true (by omega)).symm
        | cons a t hv =>
          cases hwi with
          | nil =>
            simp only [List.length_nil, List.length_cons] at hlen
            rw [lexLt_cons_nil]
            exact (decide_eq_false (by omega)).symm
          | cons c u hw =>
            rw [List.zip_cons_cons] at hz
            cases hz
      rw [hv] at hR
      wp_walk
      exact ⟨_, rfl, by simpa [Builtin.Tuple.tupleCompareSizes] using hR⟩
    case h =>
      exact ⟨rfl, rfl, items.toList, items2.toList, ns, ms, rfl, hi, hj, by omega, h⟩
end
section
variable {prog : Program} {w : World} {A : Around} {E : Value → Shared → Prop} {s : Shared}
theorem lt_tupInts {l b : Addr} {items items2 : Array Value} {ns ms : List Int} {Q : Value → Shared → Prop} (hl : IsTup s.heap l items) (hb : IsTup s.heap b items2) (hi : IntsAre items.toList ns) (hj : IntsAre items2.toList ms)
    (hu : A.units < cLine) (h : Q (.bool (lexLt ns ms)) s) : wpAny (model prog w) A (compareOp .Lt (.ref l) (.ref b)) Q E s := by
  obtain ⟨⟨cls, dd, data, sl⟩, ho, hc, n, hd⟩ := id hl
  obtain ⟨⟨cls2, dd2, data2, sl2⟩, ho2, hc2, n2, hd2⟩ := id hb
  simp only at hc hd hc2 hd2
  subst hc hd hc2 hd2
  exact richCompare_meets_room (op := .Lt) ⟨_, ho, rfl⟩ ⟨_, ho2, rfl⟩ PySem.F.slot_tuple_lt PySem.F.entry_tuple_lt (PySem.F.args_tuple_lt_2 _ _) (tuple_lt_ints l b items items2 n n2 dd dd2 sl sl2 ns ms hi hj)
    ⟨ho, ho2, show Value.bool (lexLt ns ms) ≠ Value.notImplemented ∧ Q (.bool (lexLt ns ms)) s from ⟨(fun x => nomatch x), h⟩⟩ hu
theorem cat_tup {t b : Addr} {vs ws : List Value} {Q : Value → Shared → Prop} (ht : IsTup s.heap t vs.toArray) (hb : IsTup s.heap b ws.toArray) (hv : vs ≠ [])
    (h1 : ws = [] → Q (.ref t) s) (h2 : ws ≠ [] → Q (.ref s.heap.objs.size) { s with heap := s.heap.push { cls := .type "tuple", data := .seq (vs ++ ws).toArray } })
    (hsz : vs.length + ws.length ≤ sizeLine) : wpAny (model prog w) A (binaryOp .Add (.ref t) (.ref b)) Q E s := by
  obtain ⟨⟨cls, dd, data, sl⟩, ho, hc, n, hd⟩ := id ht
  obtain ⟨⟨cls2, dd2, data2, sl2⟩, ho2, hc2, n2, hd2⟩ := id hb
  simp only at hc hd hc2 hd2
  subst hc hd hc2 hd2
  have e : vs.toArray ++ ws.toArray = (vs ++ ws).toArray := by simp
  by_cases hw : ws = []
  · exact concat_meets ⟨_, ho, rfl⟩ ⟨_, ho2, rfl⟩ noFill_tuple_add seq_tuple_add PySem.F.slot_tuple_add PySem.F.entry_tuple_add (PySem.F.args_tuple_add_2 _ _)
      (tuple_addW1 t b vs.toArray ws.toArray n n2 dd dd2 sl sl2 (by simpa using hv) (by simp [hw])) ⟨ho, ho2, h1 hw⟩
  · refine concat_meets ⟨_, ho, rfl⟩ ⟨_, ho2, rfl⟩ noFill_tuple_add seq_tuple_add PySem.F.slot_tuple_add PySem.F.entry_tuple_add (PySem.F.args_tuple_add_2 _ _)
      (tuple_addW2 t b vs.toArray ws.toArray n n2 dd dd2 sl sl2 (by simpa using hv) (by simpa using hw) (by rw [List.size_toArray, List.size_toArray]; exact hsz)) ⟨ho, ho2, ?_⟩
    rw [e]
    exact h2 hw
def sIx (n d : Nat) : Option Int → Nat
  | none => d
  | some v => if v < 0 then (v + (n : Int)).toNat else min v.toNat n
theorem sIx_none (n d : Nat) : sIx n d none = d := rfl
theorem sIx_nat (n d k : Nat) : sIx n d (some (k : Int)) = min k n := by
  show (if (k : Int) < 0 then ((k : Int) + (n : Int)).toNat else min (k : Int).toNat n) = min k n
  rw [if_neg (by omega), Int.toNat_natCast]
end
end HT
namespace L2
open PySem PySem.Spec PyProof.Rows
abbrev TO := St → Hp → (Option Int → Hp → Prop) → Prop
def PO (X : Cx) (e : Option Expr) (t : TO) : Prop :=
  ∀ (pins : List (Addr × Obj)) (s : Shared) (σ : St) (H : Hp) (Q : Option Int → Hp → Prop), Inv X pins σ H s → t σ H Q →
    wpAny (model X.prog X.w) X.A (evalPart e X.env) (fun u s' => ∃ o H', Inv X pins σ H' s' ∧ IsPart u o ∧ Q o H') X.xe s
def tNoPart : TO := fun _ H Q => Q none H
def tPart (t : TE) : TO := fun σ H Q => t σ H fun x H1 => ∃ i, x = .int i ∧ Q (some i) H1
theorem intsAre_of {ns : List Int} : ∀ {us : List Value}, Vals (ns.map V.int) us → IntsAre us ns := by
  induction ns with
  | nil => intro us r; rw [List.map_nil] at r; cases r; exact .nil
  | cons n ns ih =>
    intro us r
    rw [List.map_cons] at r
    cases r with
    | cons r1 r2 =>
      obtain ⟨t, e⟩ := r1
      subst e
      exact .cons n t (ih r2)
section
variable {X : Cx} {e : Expr} {te : TE} {lo hi : Option Expr} {tl th : TO} {pos p2 : Pos}
theorem po_none : PO X none tNoPart := by
  intro pins s σ H Q I h
  rw [evalPart_none]
  exact wpAny_pure ⟨none, H, I, .none, h⟩
theorem po_some (h : PE X e te) : PO X (some e) (tPart te) := by
  intro pins s σ H Q I hw
  rw [evalPart_some]
  refine thn (h pins s σ H _ I hw) fun u s1 ⟨x, H1, I1, r1, q1⟩ => ?_
  obtain ⟨i, rfl, q⟩ := q1
  obtain ⟨t, rfl⟩ := r1
  exact ⟨some i, H1, I1, .int i t, q⟩
def SlR (X : Cx) (r : V → Option Int → Option Int → Hp → VK → Prop) : Prop :=
  ∀ (pins : List (Addr × Obj)) (s : Shared) (σ : St) (H : Hp) (x : V) (v vl vu : Value) (lo hi : Option Int) (sl : Addr) (Q : VK), Inv X pins σ H s → RelV x v → s.heap.IsSliceOf sl vl vu .none → IsPart vl lo → IsPart vu hi → r x lo hi H Q →
    ∃ T id, typeLookup (.type T) "__getitem__" = pure (some (.builtin id)) ∧ s.TypeIs v T ∧ wpAny (model X.prog X.w) X.A (getItem v (.ref sl)) (EP X pins σ Q) X.xe s
def tSl (r : V → Option Int → Option Int → Hp → VK → Prop) (te : TE) (tl th : TO) : TE := fun σ H Q => te σ H fun x H1 => tl σ H1 fun l H2 => th σ H2 fun u H3 => r x l u H3 Q
theorem pe_slice {r : V → Option Int → Option Int → Hp → VK → Prop} (hr : SlR X r) (he : PE X e te) (hl : PO X lo tl) (hu : PO X hi th) : PE X (.Subscript e (.Slice lo hi none p2) pos) (tSl r te tl th) := by
  intro pins s σ H Q I h
  refine Subscript_ (thn (he pins s σ H _ I h) fun v s1 ⟨x, H1, I1, r1, q1⟩ => ?_)
  refine wpAny_Slice (thn (hl pins s1 σ H1 _ I1 q1) fun vl s2 ⟨l, H2, I2, pl, q2⟩ => thn (hu pins s2 σ H2 _ I2 q2) fun vu s3 ⟨u, H3, I3, pu, q3⟩ => ?_)
  rw [evalPart_none]
  refine wpAny_pure ?_
  have I4 : Inv X pins σ H3 { s3 with heap := s3.heap.push { cls := .type "slice", data := .fields #[vl, vu, .none] } } := I3.kept (t' := s3.toks) fun b ob q => Heap.get?_push_of_some _ q
  obtain ⟨T, id, hT, ht, hg⟩ := hr pins { s3 with heap := s3.heap.push { cls := .type "slice", data := .fields #[vl, vu, .none] } } σ H3 x v vl vu l u s3.heap.objs.size Q I4 r1 (Heap.IsSliceOf.new ..) pl pu q3
  show wpAny (model X.prog X.w) X.A (subscriptTail e (.Slice lo hi none p2) v (.ref s3.heap.objs.size)) (EP X pins σ Q) X.xe { s3 with heap := s3.heap.push { cls := .type "slice", data := .fields #[vl, vu, .none] } }
  exact tail_any (ops := [.ref s3.heap.objs.size, v]) ht hT hg (by with_unfolding_all rfl)
def cutV (xs : List V) (lo hi : Option Int) : List V := (xs.drop (HT.sIx xs.length 0 lo)).take (HT.sIx xs.length xs.length hi - HT.sIx xs.length 0 lo)
theorem cutV_length (xs : List V) (lo hi : Option Int) : (cutV xs lo hi).length ≤ xs.length := by
  unfold cutV
  rw [List.length_take, List.length_drop]
  omega
def rCatT (K : PySem.W.Frag) : R2 := fun x y H Q => ∃ a b xs ys, x = .ref a ∧ y = .ref b ∧ SqT K H a xs ∧ SqT K H b ys ∧ xs ≠ [] ∧ xs.length + ys.length ≤ sizeLine ∧
  (ys = [] → Q (.ref a) H) ∧ (ys ≠ [] → ∀ p, H p = none → Q (.ref p) (upd H p (.tup (xs ++ ys))))
theorem Vals.nil_iff {xs : List V} {us : List Value} (r : Vals xs us) : us = [] ↔ xs = [] := by
  cases r with
  | nil => simp
  | cons _ _ => simp
theorem op_catT : OpR X (binaryOp .Add) (rCatT X.K) := by
  intro pins s σ H x y v u Q I rx ry h
  obtain ⟨a, b, xs, ys, rfl, rfl, ha, hb, hx, hz, q1, q2⟩ := h
  cases rx
  cases ry
  obtain ⟨its, r1, p1, _⟩ := I.tuple ha
  obtain ⟨its2, r2, p2, _⟩ := I.tuple hb
  refine HT.cat_tup p1 p2 (fun z => hx (r1.nil_iff.mp z)) (fun z => ⟨.ref a, H, I, rfl, q1 (r2.nil_iff.mp z)⟩) (fun z => ?_) (by rw [← r1.length, ← r2.length]; exact hz)
  refine ⟨.ref s.heap.objs.size, _, I.laid (t' := s.toks) (o := .tup (xs ++ ys)) (fun b ob q => Heap.get?_push_of_some _ q) (Nat.le_refl _) ?_, rfl, q2 (fun w => z (r2.nil_iff.mpr w)) _ (I.hok.fresh (Nat.le_refl _))⟩
  exact ⟨by rw [List.length_append]; exact hz, _, r1.append r2, IsTup.new _ _⟩
end
end L2
namespace L2
open PySem PySem.Spec PyProof.Rows
def ixN (n : Nat) (i : Int) : Option Nat := if 0 ≤ i then (if i < n then some i.toNat else none) else if -(n : Int) ≤ i then some (i + n).toNat else none
def atI {α : Type} (xs : List α) (i : Int) : Option α := (ixN xs.length i).bind fun j => xs[j]?
theorem ixN_seq {n : Nat} {i : Int} {j : Nat} (h : ixN n i = some j) : seqIndex? i n = some j ∧ j < n ∧ -(n : Int) ≤ i ∧ i < n := by
  unfold ixN at h
  by_cases h0 : 0 ≤ i
  · rw [if_pos h0] at h
    by_cases h1 : i < n
    · rw [if_pos h1] at h
      have e : i.toNat = j := Option.some.inj h
      exact ⟨by rw [seqIndex_of h0 h1, e], by omega, by omega, h1⟩
    · rw [if_neg h1] at h; cases h
  · rw [if_neg h0] at h
    by_cases h1 : -(n : Int) ≤ i
    · rw [if_pos h1] at h
      have e : (i + n).toNat = j := Option.some.inj h
      exact ⟨by rw [seqIndex_neg (by omega) h1, e], by omega, h1, by omega⟩
    · rw [if_neg h1] at h; cases h
theorem atI_get {α : Type} {xs : List α} {i : Int} {v : α} (h : atI xs i = some v) : ∃ j, seqIndex? i xs.length = some j ∧ xs[j]? = some v ∧ j < xs.length ∧ -(xs.length : Int) ≤ i ∧ i < xs.length := by
  unfold atI at h
  cases e : ixN xs.length i with
  | none => rw [e] at h; cases h
  | some j =>
    rw [e] at h
    obtain ⟨h1, h2, h3, h4⟩ := ixN_seq e
    exact ⟨j, h1, h, h2, h3, h4⟩
theorem atI_nat {α : Type} {xs : List α} {j : Nat} {v : α} (h : xs[j]? = some v) : atI xs (j : Int) = some v := by
  have hj : j < xs.length := (List.getElem?_eq_some_iff.mp h).1
  have e : ixN xs.length (j : Int) = some j := by
    unfold ixN
    rw [if_pos (by omega), if_pos (by omega)]; simp
  unfold atI; rw [e]; exact h
def PlainIx (b : Expr) : Prop := ∀ o i, subscripted b false o i = operate [o, i] (getItem o i)
def IxR (X : Cx) (r : R2) : Prop :=
  ∀ (value slice : Expr) (pins : List (Addr × Obj)) (s : Shared) (σ : St) (H : Hp) (x y : V) (v u : Value) (Q : VK), Inv X pins σ H s → RelV x v → RelV y u → r x y H Q →
    subscripted slice false v u = operate [v, u] (getItem v u) → wpAny (model X.prog X.w) X.A (subscriptTail value slice v u) (EP X pins σ Q) X.xe s
def MtR (X : Cx) (id : String) (r : V → List V → Hp → VK → Prop) : Prop :=
  ∀ (pins : List (Addr × Obj)) (s : Shared) (σ : St) (H : Hp) (x : V) (xs : List V) (v : Value) (us : List Value) (Q : VK), Inv X pins σ H s → RelV x v → Vals xs us → r x xs H Q →
    wpAny (model X.prog X.w) X.A (call (.builtin id) (v :: us)) (EP X pins σ Q) X.xe s
section
variable {X : Cx} {a b : Expr} {ta tb : TE} {pos : Pos}
theorem pe_ix {r : R2} (hr : IxR X r) (ha : PE X a ta) (hb : PE X b tb) (hs : PlainIx b) : PE X (.Subscript a b pos) (tOp r ta tb) := by
  intro pins s σ H Q I h
  exact Subscript_ (binT ha hb I h fun v u s2 x y H2 I2 rx ry q => hr a b pins s2 σ H2 x y v u Q I2 rx ry q (hs _ _))
def rIxL (K : PySem.W.Frag) : R2 := fun x y H Q => ∃ p xs i v, x = .ref p ∧ y = .int i ∧ SqL K H p xs ∧ atI xs i = some v ∧ Q v H
def rIxT (K : PySem.W.Frag) : R2 := fun x y H Q => ∃ p xs i v, x = .ref p ∧ y = .int i ∧ SqT K H p xs ∧ atI xs i = some v ∧ Q v H
theorem ix_list : IxR X (rIxL X.K) := by
  intro value slice pins s σ H x y v u Q I rx ry h hs
  obtain ⟨p, xs, i, z, rfl, rfl, hq, he, q⟩ := h
  cases rx
  obtain ⟨t, rfl⟩ := ry
  obtain ⟨its, r, pl, hz⟩ := I.list hq
  obtain ⟨j, h1, h2, h3, h4, h5⟩ := atI_get he
  obtain ⟨w, ew, rw'⟩ := r.get h2
  have hl := r.length
  have hn := line63
  have fin : EP X pins σ Q w s := ⟨z, H, I, rw', q⟩
  by_cases h0 : 0 ≤ i
  · have hj : i.toNat = j := by
      rw [seqIndex_of h0 h5] at h1
      exact Option.some.inj h1
    exact item_listR pl.isList h0 (by omega) (by rw [hj]; simpa using ew) fin hs
  · have hj : (i + (its.toArray.size : Int)).toNat = j := by
      rw [seqIndex_neg (by omega) h4] at h1
      rw [List.size_toArray, ← hl]
      exact Option.some.inj h1
    exact subscriptTail_builtinR (x := w) pl.isList.typeIs slot_list_getitem.lookup
      (wpAny_getItem_list_neg (Q := fun r s' => r = w ∧ EP X pins σ Q r s') pl.isList (by omega) (by rw [List.size_toArray] <;> omega) (by omega) (by rw [hj]; simpa using ew) ⟨rfl, fin⟩) hs
theorem ix_tup : IxR X (rIxT X.K) := by
  intro value slice pins s σ H x y v u Q I rx ry h hs
  obtain ⟨p, xs, i, z, rfl, rfl, hq, he, q⟩ := h
  cases rx
  obtain ⟨t, rfl⟩ := ry
  obtain ⟨its, r, pl, hz⟩ := I.tuple hq
  obtain ⟨j, h1, h2, h3, h4, h5⟩ := atI_get he
  obtain ⟨w, ew, rw'⟩ := r.get h2
  have hl := r.length
  have hn := line63
  have fin : EP X pins σ Q w s := ⟨z, H, I, rw', q⟩
  exact subscriptTail_builtinR (x := w) pl.typeIs slot_tuple_getitem.lookup
    (getItem_tuple (j := j) (Q := fun r s' => r = w ∧ EP X pins σ Q r s') pl (by omega) (by omega) (by rw [List.size_toArray, ← hl]; exact h1) (by simpa using ew) ⟨rfl, fin⟩) hs
theorem slice_bounds (lo hi : Option Int) (n : Nat) : (sliceBounds lo hi none n).1 = ((HT.sIx n 0 lo : Nat) : Int) ∧ (sliceBounds lo hi none n).2.1 = ((HT.sIx n n hi : Nat) : Int) ∧ (sliceBounds lo hi none n).2.2 = 1 := by
  refine ⟨?_, ?_, rfl⟩
  · cases lo with
    | none => simp [sliceBounds, HT.sIx]
    | some i =>
      simp only [sliceBounds, HT.sIx, Option.getD_none, show (1 : Int) > 0 by decide, if_true]
      by_cases h : i < 0
      · simp only [h, if_true] <;> omega
      · simp only [h, if_false] <;> omega
  · cases hi with
    | none => simp [sliceBounds, HT.sIx]
    | some i =>
      simp only [sliceBounds, HT.sIx, Option.getD_none, show (1 : Int) > 0 by decide, if_true]
      by_cases h : i < 0
      · simp only [h, if_true] <;> omega
      · simp only [h, if_false] <;> omega
theorem slicePick_cut (its : List Value) (lo hi : Option Int) : slicePick its.toArray lo hi none = ((its.drop (HT.sIx its.length 0 lo)).take (HT.sIx its.length its.length hi - HT.sIx its.length 0 lo)).toArray := by
  obtain ⟨h1, h2, h3⟩ := slice_bounds lo hi its.toArray.size
  unfold slicePick
  rw [h1, h2, h3]
  simp only [sliceRange_one, pick_run, List.size_toArray] <;> rfl
def rSlL (K : PySem.W.Frag) : V → Option Int → Option Int → Hp → VK → Prop := fun x lo hi H Q => ∃ a xs, x = .ref a ∧ SqL K H a xs ∧ ∀ p, H p = none → Q (.ref p) (upd H p (.lst (cutV xs lo hi)))
theorem sl_list : SlR X (rSlL X.K) := by
  intro pins s σ H x v vl vu lo hi sl Q I rx hs pl pu h
  obtain ⟨a, xs, rfl, hx, q⟩ := h
  cases rx
  obtain ⟨its, r, ht, hz⟩ := I.list hx
  have hlen := r.length
  refine ⟨"list", _, slot_list_getitem.lookup, ht.isList.typeIs, ?_⟩
  refine wpAny_getItem_list_slice ht.isList hs pl pu .none (by simp) ?_ (by rw [List.size_toArray] <;> omega)
  rw [slicePick_cut, ← hlen]
  refine ⟨.ref s.heap.objs.size, _, I.laid (t' := s.toks) (o := .lst (cutV xs lo hi)) (fun b ob q => Heap.get?_push_of_some _ q) (Nat.le_refl _) ?_, rfl, q _ (I.hok.fresh (Nat.le_refl _))⟩
  exact ⟨Nat.le_trans (cutV_length xs lo hi) hz, _, 0, (r.drop (HT.sIx xs.length 0 lo)).take (HT.sIx xs.length xs.length hi - HT.sIx xs.length 0 lo), Heap.get?_push_size _ rfl⟩
def flatV : V → Bool
  | .non => true
  | .bl _ => true
  | .int _ => true
  | .str _ => true
  | _ => false
def eqV : V → V → Bool
  | .non, .non => true
  | .bl a, .bl b => a == b
  | .bl a, .int b => (if a then 1 else 0) == b
  | .int a, .bl b => a == (if b then 1 else 0)
  | .int a, .int b => a == b
  | .str a, .str b => a == b
  | _, _ => false
theorem eqAt_V {A : Around} {s : Shared} {y x : V} {u v : Value} (ry : RelV y u) (rx : RelV x v) (fy : flatV y = true) (fx : flatV x = true) : SeqAt.EqAt A s u v (eqV y x) := by
  cases y with
  | non =>
    cases ry
    cases x with
    | non => cases rx; exact SeqAt.EqAt.same _
    | bl b => cases rx; exact SeqAt.EqAt.none_bool b
    | int b => obtain ⟨t, rfl⟩ := rx; exact SeqAt.EqAt.none_int b t
    | str b => obtain ⟨t, rfl⟩ := rx; exact SeqAt.EqAt.none_str b t
    | _ => exact absurd (show false = true from fx) Bool.false_ne_true
  | bl a =>
    cases ry
    cases x with
    | non => cases rx; exact SeqAt.EqAt.bool_none a
    | bl b => cases rx; exact SeqAt.EqAt.bool_bool a b
    | int b => obtain ⟨t, rfl⟩ := rx; exact SeqAt.EqAt.bool_int a b t
    | str b => obtain ⟨t, rfl⟩ := rx; exact SeqAt.EqAt.bool_str a b t
    | _ => exact absurd (show false = true from fx) Bool.false_ne_true
  | int a =>
    obtain ⟨t', rfl⟩ := ry
    cases x with
    | non => cases rx; exact SeqAt.EqAt.int_none a t'
    | bl b => cases rx; exact SeqAt.EqAt.int_bool a t' b
    | int b => obtain ⟨t, rfl⟩ := rx; exact SeqAt.EqAt.int_int a t' b t
    | str b => obtain ⟨t, rfl⟩ := rx; exact SeqAt.EqAt.int_str a t' b t
    | _ => exact absurd (show false = true from fx) Bool.false_ne_true
  | str a =>
    obtain ⟨t', rfl⟩ := ry
    cases x with
    | non => cases rx; exact SeqAt.EqAt.str_none a t'
    | bl b => cases rx; exact SeqAt.EqAt.str_bool a t' b
    | int b => obtain ⟨t, rfl⟩ := rx; exact SeqAt.EqAt.str_int a t' b t
    | str b => obtain ⟨t, rfl⟩ := rx; exact SeqAt.EqAt.str_str a t' b t
    | _ => exact absurd (show false = true from fx) Bool.false_ne_true
  | _ => exact absurd (show false = true from fy) Bool.false_ne_true
def eqU (x : V) (u : Value) : Bool := match u with
  | .none => eqV .non x
  | .bool b => eqV (.bl b) x
  | .int i _ => eqV (.int i) x
  | .str z _ => eqV (.str z) x
  | _ => false
theorem eqU_of {x y : V} {u : Value} (r : RelV y u) (f : flatV y = true) : eqU x u = eqV y x := by
  cases y with
  | non => cases r; rfl
  | bl b => cases r; rfl
  | int i => obtain ⟨t, rfl⟩ := r; rfl
  | str z => obtain ⟨t, rfl⟩ := r; rfl
  | _ => exact absurd (show false = true from f) Bool.false_ne_true
theorem any_eqU {x : V} : ∀ {xs : List V} {us : List Value}, Vals xs us → xs.all flatV = true → us.any (eqU x) = xs.any fun y => eqV y x
  | _, _, .nil, _ => rfl
  | y :: xs, u :: us, .cons r t, f => by
    rw [List.all_cons, Bool.and_eq_true] at f
    rw [List.any_cons, List.any_cons, eqU_of r f.1, any_eqU t f.2]
theorem mem_eqAt {A : Around} {s : Shared} {x : V} {v : Value} (rx : RelV x v) (fx : flatV x = true) : ∀ {xs : List V} {us : List Value}, Vals xs us → xs.all flatV = true → ∀ u ∈ us, SeqAt.EqAt A s u v (eqU x u)
  | _, _, .nil, _ => fun u hu => by cases hu
  | y :: xs, u :: us, .cons r t, f => fun u' hu => by
    rw [List.all_cons, Bool.and_eq_true] at f
    rcases List.mem_cons.mp hu with rfl | hu
    · rw [eqU_of r f.1]; exact eqAt_V r rx f.1 fx
    · exact mem_eqAt rx fx t f.2 u' hu
def inV (x : V) (xs : List V) : Bool := xs.any fun y => eqV y x
def rIn (K : PySem.W.Frag) (neg : Bool) : R2 := fun x y H Q => ∃ p xs, y = .ref p ∧ (SqL K H p xs ∨ SqT K H p xs) ∧ flatV x = true ∧ xs.all flatV = true ∧ Q (.bl (if neg then !inV x xs else inV x xs)) H
theorem op_in_seq : OpR X (compareOp .In) (rIn X.K false) := by
  intro pins s σ H x y v u Q I rx ry h
  obtain ⟨p, xs, rfl, hq, fx, fs, q⟩ := h
  cases ry
  rcases hq with hq | hq
  · obtain ⟨its, r, pl, hz⟩ := I.list hq
    refine SeqAt.in_listAt (eqU x) pl.isList (fun w hw => mem_eqAt rx fx r fs w (by simpa using hw)) ⟨.bl _, H, I, rfl, ?_⟩
    rw [show its.toArray.any (eqU x) = its.any (eqU x) by simp, any_eqU r fs]
    exact q
  · obtain ⟨its, r, pl, hz⟩ := I.tuple hq
    refine SeqAt.in_tupleAt (eqU x) pl (fun w hw => mem_eqAt rx fx r fs w (by simpa using hw)) ⟨.bl _, H, I, rfl, ?_⟩
    rw [show its.toArray.any (eqU x) = its.any (eqU x) by simp, any_eqU r fs]
    exact q
theorem call_len_seq : CallR X (.builtin "len") (fun xs H Q => ∃ p ys, xs = [.ref p] ∧ (SqL X.K H p ys ∨ SqT X.K H p ys) ∧ Q (.int ys.length) H) := by
  intro pins s σ H xs us Q I r h
  obtain ⟨p, ys, rfl, hq, q⟩ := h
  obtain ⟨u, rfl, rx⟩ := vals1 r
  cases rx
  have hn := line63
  rcases hq with hq | hq
  · obtain ⟨its, r', pl, hz⟩ := I.list hq
    have hlen := r'.length
    exact Calls.call_len_list pl.isList (by simp only [List.size_toArray] <;> omega) ⟨.int ys.length, H, I.tok _, ⟨s.toks + 1, by rw [List.size_toArray, hlen]⟩, q⟩
  · obtain ⟨its, r', pl, hz⟩ := I.tuple hq
    have hlen := r'.length
    exact len_tuple pl (by simp only [List.size_toArray] <;> omega) ⟨.int ys.length, H, I.tok _, ⟨s.toks + 1, by rw [List.size_toArray, hlen]⟩, q⟩
theorem call_list_of : CallR X (.type "list") (fun xs H Q => ∃ p ys, xs = [.ref p] ∧ (SqL X.K H p ys ∨ SqT X.K H p ys) ∧ ∀ l, H l = none → Q (.ref l) (upd H l (.lst ys))) := by
  intro pins s σ H xs us Q I r h
  obtain ⟨p, ys, rfl, hq, q⟩ := h
  obtain ⟨u, rfl, rx⟩ := vals1 r
  cases rx
  have fin : ∀ (its : List Value), Vals ys its → ys.length ≤ sizeLine → ∀ (h' : Heap) (c' : Nat), (∀ b o', s.heap.get? b = some o' → h'.get? b = some o') →
      h'.get? s.heap.objs.size = some { cls := .type "list", dict := none, data := .seq its.toArray c', slots := #[] } → EP X pins σ Q (.ref s.heap.objs.size) { s with heap := h' } := fun its r' hz h' c' kp e =>
    ⟨.ref s.heap.objs.size, _, I.laid (t' := s.toks) kp (Nat.le_refl _) (show ObjOk X.prog X.w _ h' _ (.lst ys) from ⟨hz, its, c', r', e⟩), rfl, q _ (I.hok.fresh (Nat.le_refl _))⟩
  rcases hq with hq | hq
  · obtain ⟨its, r', pl, hz⟩ := I.list hq
    have hlen := r'.length
    obtain ⟨o, ho, hc, n, hd⟩ := pl.isList
    exact call_list_seq p (.inl rfl) ho hc hd (fun h' c' kp e => fin its r' hz h' c' kp e) (by simp only [List.size_toArray] <;> omega)
  · obtain ⟨its, r', pl, hz⟩ := I.tuple hq
    have hlen := r'.length
    obtain ⟨o, ho, hc, n, hd⟩ := pl
    exact call_list_seq p (.inr rfl) ho hc hd (fun h' c' kp e => fin its r' hz h' c' kp e) (by simp only [List.size_toArray] <;> omega)
theorem call_tuple_of : CallR X (.type "tuple") (fun xs H Q => ∃ p ys, xs = [.ref p] ∧ ((SqL X.K H p ys ∧ ∀ l, H l = none → Q (.ref l) (upd H l (.tup ys))) ∨ (SqT X.K H p ys ∧ Q (.ref p) H))) := by
  intro pins s σ H xs us Q I r h
  obtain ⟨p, ys, rfl, h⟩ := h
  obtain ⟨u, rfl, rx⟩ := vals1 r
  cases rx
  rcases h with ⟨hq, q⟩ | ⟨hq, q⟩
  · obtain ⟨its, r', pl, hz⟩ := I.list hq
    have hlen := r'.length
    refine call_tuple_list pl.isList (fun h' kp => ?_) (by simp only [List.size_toArray] <;> omega)
    have I1 : Inv X pins σ H { s with heap := h' } := I.kept (t' := s.toks) kp
    have I2 : Inv X pins σ (upd H h'.objs.size (.tup ys)) { s with heap := h'.push { cls := .type "tuple", data := .seq its.toArray } } :=
      I1.laid (t' := s.toks) (fun b o e => Heap.get?_push_of_some _ e) (Nat.le_refl _) (show ObjOk X.prog X.w _ _ _ (.tup ys) from ⟨hz, its, r', IsTup.new _ _⟩)
    exact ⟨.ref h'.objs.size, _, I2, rfl, q _ (I1.hok.fresh (Nat.le_refl _))⟩
  · obtain ⟨its, r', pl, hz⟩ := I.tuple hq
    exact call_tuple_same pl ⟨.ref p, H, I, rfl, q⟩
def tyV (K : PySem.W.Frag) (T : String) (x : V) (H : Hp) : Prop := match x with
  | .str _ => T = "str"
  | .int _ => T = "int"
  | .ref p => (T = "list" ∧ ∃ xs, SqL K H p xs) ∨ (T = "tuple" ∧ ∃ o, K.lookup p = some o ∧ o.cls = .type "tuple" ∧ o.dict = none) ∨
      (T = "dict" ∧ ((∃ kvs, H p = some (.dK kvs)) ∨ ∃ kvs, H p = some (.dT kvs))) ∨ (T = "set" ∧ ∃ S n, H p = some (.set S n))
  | _ => False
theorem tyV_is {pins : List (Addr × Obj)} {σ : St} {H : Hp} {s : Shared} {T : String} {x : V} {v : Value} (I : Inv X pins σ H s) (r : RelV x v) (ty : tyV X.K T x H) :
    s.TypeIs v T ∧ ∀ a, v = .ref a → ∃ ob, s.heap.get? a = some ob ∧ ob.dict = none := by
  cases x with
  | str z =>
    obtain ⟨t, rfl⟩ := r
    cases (show T = "str" from ty)
    exact ⟨typeIs_str s z t, fun _ e => nomatch e⟩
  | int i =>
    obtain ⟨t, rfl⟩ := r
    cases (show T = "int" from ty)
    exact ⟨typeIs_int s i t, fun _ e => nomatch e⟩
  | ref p =>
    cases r
    rcases ty with ⟨rfl, xs, hq⟩ | ⟨rfl, o, hk, hc, hd⟩ | ⟨rfl, hk⟩ | ⟨rfl, S, n, hk⟩
    · obtain ⟨its, _, pl, _⟩ := I.list hq
      refine ⟨pl.isList.typeIs, fun a e => ?_⟩
      cases e
      obtain ⟨o, n, e, c, hd, _⟩ := pl
      exact ⟨o, e, hd⟩
    · refine ⟨⟨o, I.kIn p o hk, hc⟩, fun a e => ?_⟩
      cases e
      exact ⟨o, I.kIn _ o hk, hd⟩
    · have z : ∃ o, s.heap.get? p = some o ∧ o.ExactDict := by
        rcases hk with ⟨kvs, hk⟩ | ⟨kvs, hk⟩
        · obtain ⟨_, _, _, _, o, _, _, e, ex, _⟩ := I.hok p _ hk
          exact ⟨o, e, ex⟩
        · obtain ⟨_, _, _, _, o, _, _, e, ex, _⟩ := I.hok p _ hk
          exact ⟨o, e, ex⟩
      obtain ⟨o, e, ex⟩ := z
      refine ⟨⟨o, e, ex.1⟩, fun a e2 => ?_⟩
      cases e2
      exact ⟨o, e, ex.2.1⟩
    · obtain ⟨o, _, _, _, e, ex, _⟩ := I.hok p _ hk
      refine ⟨⟨o, e, ex.1⟩, fun a e2 => ?_⟩
      cases e2
      exact ⟨o, e, ex.2.1⟩
  | _ => exact False.elim ty
def tBM0 (K : PySem.W.Frag) (T : String) (r : V → List V → Hp → VK → Prop) (to : TE) : TE := fun σ H Q => to σ H fun x H1 => tyV K T x H1 ∧ r x [] H1 Q
def tBM (K : PySem.W.Frag) (T : String) (r : V → List V → Hp → VK → Prop) (to : TE) (t : TA) : TE := fun σ H Q => to σ H fun x H1 => tyV K T x H1 ∧ t σ H1 fun xs H2 => r x xs H2 Q
variable {o e : Expr} {es : List Expr} {to : TE} {t : TA} {name : Str} {apos cpos : Pos} {T id : String} {r : V → List V → Hp → VK → Prop}
theorem pe_bm0 (pa : PlainAttrs T) (slot : Slot T name id) (hty : typeOf (.builtin id) = pure (.type "method_descriptor")) (hm : MtR X id r) (ho : PE X o to)
    (hbase : attributeBase o name X.env (eval o X.env) = eval o X.env := by rfl) (hline : (apos.endLine == cpos.line) = true := by rfl) : PE X (.Call (.Attribute o name apos) [] [] cpos) (tBM0 X.K T r to) := by
  intro pins s σ H Q I h
  refine wpAny_Call_method0_late hbase hline (thn (ho pins s σ H _ I h) fun v s1 ⟨x, H1, I1, r1, ty, q1⟩ => ?_)
  obtain ⟨h1, h2⟩ := tyV_is I1 r1 ty
  exact ⟨T, id, pa, slot, hty, h1, h2, Calls.callWith_builtin rfl (PySem.evalArgs_none (hm pins s1 σ H1 x [] v [] Q I1 r1 .nil q1))⟩
theorem pe_bm (pa : PlainAttrs T) (slot : Slot T name id) (hty : typeOf (.builtin id) = pure (.type "method_descriptor")) (hm : MtR X id r) (ho : PE X o to) (ha : PA X (e :: es) t)
    (hbase : attributeBase o name X.env (eval o X.env) = eval o X.env := by rfl)
    (hfew : ((backTo cpos (starEach (e :: es) X.env)).all (fun x => !x.1) && (backToKw cpos (keywordEach [] X.env)).all (fun x => x.1.isSome)
      && decide ((e :: es).length + ([] : List Keyword).length + (if ([] : List Keyword).isEmpty then 0 else 1) < 30)) = true := by rfl)
    (hline : (apos.endLine == cpos.line) = true := by rfl) (hs : starEach (e :: es) X.env = (false, eval e X.env) :: starEach es X.env := by rfl) (hplain : (backTo cpos (starEach es X.env)).any (·.1) = false := by rfl) :
    PE X (.Call (.Attribute o name apos) (e :: es) [] cpos) (tBM X.K T r to t) := by
  intro pins s σ H Q I h
  refine wpAny_Call_method_late hbase hfew hline rfl (thn (ho pins s σ H _ I h) fun v s1 ⟨x, H1, I1, r1, ty, q1⟩ => ?_)
  obtain ⟨h1, h2⟩ := tyV_is I1 r1 ty
  refine ⟨T, id, pa, slot, hty, h1, h2, ?_⟩
  have hA := ha cpos pins s1 σ H1 _ I1 q1
  rw [hs] at hA ⊢
  refine Calls.callWith_builtin (by show (false || (backTo cpos (starEach es X.env)).any (·.1)) = false; rw [hplain] <;> rfl) (Calls.evalArgs_plain ?_)
  exact thn hA fun us s2 ⟨vs, H2, I2, r2, q2⟩ => hm pins s2 σ H2 x vs v us Q I2 r1 r2 q2
end
end L2
namespace L2
open PySem PySem.Spec PyProof.Rows
def MtM (X : Cx) (id : String) (r : V → List V → Hp → VK → Prop) : Prop :=
  ∀ (pins : List (Addr × Obj)) (s : Shared) (σ : St) (H : Hp) (x : V) (xs : List V) (v : Value) (us : List Value) (Q : VK), Inv X pins σ H s → RelV x v → Vals xs us → r x xs H Q →
    wpAny (model X.prog X.w) X.A (call (.builtin id) (v :: us)) (EP X pins σ Q) X.xe s
theorem Vals.one : ∀ {x : V} {us : List Value}, Vals [x] us → ∃ u, us = [u] ∧ RelV x u
  | _, _, .cons r .nil => ⟨_, rfl, r⟩
section
variable {X : Cx} {pins : List (Addr × Obj)} {σ : St} {H : Hp} {s : Shared} {l b : Addr} {xs ys zs : List V}
theorem Inv.lset {its its' : List Value} {n : Nat} {f : Array Value → Array Value} {t' : Nat} (I : Inv X pins σ H s) (hH : H l = some (.lst xs))
    (e : s.heap.get? l = some { cls := .type "list", data := .seq its.toArray n }) (hf : f its.toArray = its'.toArray) (hv : Vals ys its') (hz : ys.length ≤ sizeLine) :
    Inv X pins σ (upd H l (.lst ys)) { s with heap := s.heap.update l (Obj.mapSeq f), toks := t' } := by
  have q := PySem.IsL.update e f
  rw [hf] at q
  refine I.write (x := l) (e := l) (by rw [hH]; exact trivial) (.inl rfl) (fun b' u hb hu => (Heap.get?_update_other s.heap (Obj.mapSeq f) (Ne.symm hb)).trans hu) ⟨_, q⟩ ?_
  exact ⟨hz, its', _, hv, q⟩
theorem Inv.lnew {its : List Value} {t' : Nat} (I : Inv X pins σ H s) (hv : Vals ys its) (hz : ys.length ≤ sizeLine) :
    Inv X pins σ (upd H s.heap.objs.size (.lst ys)) { s with heap := s.heap.push { cls := .type "list", data := .seq its.toArray }, toks := t' } :=
  I.laid (fun _ _ q => Heap.get?_push_of_some _ q) (Nat.le_refl _) ⟨hz, its, 0, hv, Heap.get?_push_size _ rfl⟩
theorem Inv.fresh (I : Inv X pins σ H s) : H s.heap.objs.size = none := I.hok.fresh (Nat.le_refl _)
theorem Inv.lstM (I : Inv X pins σ H s) (hH : H l = some (.lst xs)) : xs.length ≤ sizeLine ∧ ∃ (its : List Value) (n : Nat), Vals xs its ∧ xs.length = its.length ∧ s.heap.get? l = some { cls := .type "list", data := .seq its.toArray n } := by
  obtain ⟨z, its, n, r, e⟩ := I.hok l _ hH
  exact ⟨z, its, n, r, r.length, e⟩
theorem notLongL {n : Nat} (h : n ≤ sizeLine) : Builtin.List.listTooLong n = false := by
  unfold Builtin.List.listTooLong
  exact decide_eq_false (by omega)
end
section
variable {X : Cx}
def rAppend : V → List V → Hp → VK → Prop := fun x vs H Q => ∃ l xs y, x = .ref l ∧ vs = [y] ∧ H l = some (.lst xs) ∧ xs.length < sizeLine ∧ Q .non (upd H l (.lst (xs ++ [y])))
theorem mt_append : MtM X "list.append" rAppend := by
  intro pins s σ H x vs v us Q I rx rv h
  obtain ⟨l, xs, y, rfl, rfl, hH, hz, q⟩ := h
  cases rx
  obtain ⟨u, rfl, ru⟩ := rv.one
  obtain ⟨z, its, n, r, hl, e⟩ := I.lstM hH
  refine call_meets F.slot_list_append ⟨_, e, rfl⟩ F.entry_list_append (F.args_list_append_2 _ _) (PySem.list_append l its.toArray n u (by rw [List.size_toArray]; omega)) ⟨e, ?_⟩
  refine ⟨.non, _, I.lset (its' := its ++ [u]) hH e (by simp) (r.append (.cons ru .nil)) ?_, rfl, q⟩
  rw [List.length_append, List.length_singleton]
  omega
def rCat : R2 := fun x y H Q => ∃ l b xs zs, x = .ref l ∧ y = .ref b ∧ H l = some (.lst xs) ∧ H b = some (.lst zs) ∧ xs.length + zs.length ≤ sizeLine ∧ ∀ p, H p = none → Q (.ref p) (upd H p (.lst (xs ++ zs)))
theorem op_cat : OpR X (binaryOp .Add) rCat := by
  intro pins s σ H x y v u Q I rx ry h
  obtain ⟨l, b, xs, zs, rfl, rfl, hH, hB, hz, q⟩ := h
  cases rx
  cases ry
  obtain ⟨z, its, n, r, hl, e⟩ := I.lstM hH
  obtain ⟨z2, its2, n2, r2, hl2, e2⟩ := I.lstM hB
  refine PySem.P.add_list e e2 ?_ (by rw [List.size_toArray, List.size_toArray]; omega)
  have ea : its.toArray ++ its2.toArray = (its ++ its2).toArray := by simp
  rw [ea]
  exact ⟨.ref _, _, I.lnew (t' := s.toks) (r.append r2) (by rw [List.length_append]; omega), rfl, q _ I.fresh⟩
end
section
variable {prog : Program} {w : World} {A : Around} {E : Value → Shared → Prop} {s : Shared}
set_option maxRecDepth 100000 in
end
section
variable {X : Cx}
end
end L2
namespace Att
open PySem PySem.W PySem.Calls PyProof.Rows
theorem ints_of_wellAll {P : Params} {h : Heap} : ∀ (ns : List Int) (vs : List Value), WellAll P h vs (ns.map WData.int) → IntsAre vs ns := by
  intro ns
  induction ns with
  | nil =>
    intro vs w
    rw [List.map_nil] at w
    cases w
    exact .nil
  | cons n ns ih =>
    intro vs w
    rw [List.map_cons] at w
    cases w with
    | cons a b =>
      cases a
      exact .cons _ _ (ih _ b)
theorem script_of {l : OpenLaw} {n : Nat} (hn : l.most = some n) {P : Params} {h : Heap} {args : List WData} {vals : List Value}
    (hpre : l.row.toRowW.claim.pre args = true) (hwl : WellAll P h vals args) :
    ∃ a vs ns, vals = [Value.ref a] ∧ args = [WData.list (ns.map WData.int)] ∧ h.get? a = some { cls := .type "list", data := .seq vs.toArray } ∧ IntsAre vs ns ∧ ns.length ≤ n := by
  have hsh : WShape.hasAll [] args [.list .int] = true := (pre_splitW hpre).1
  have hc : l.pre.holds [] { args := args } = true := (pre_splitW hpre).2
  obtain ⟨d, r, rfl, h1, h2⟩ := hasAllW_cons hsh
  obtain rfl := hasAllW_nil h2
  obtain ⟨xs, rfl, h3⟩ := hasW_list h1
  obtain ⟨ns, rfl⟩ := items_int h3
  have hlen : ns.length ≤ n := by
    unfold OpenLaw.pre at hc
    have h4 : (WTm.not (.lt (.lit (.int (n : Int))) (.len (.arg 0)))).holds [] { args := [.list (ns.map .int)] } = true := by
      have h4 := (holds_andW hc).1
      rw [hn] at h4
      exact h4
    have h5 := condW_of h4 (w_not (w_lt w_lit (w_len_list (w_arg rfl))))
    rw [List.length_map] at h5
    refine Nat.le_of_not_lt fun q => ?_
    have q' : (n : Int) < ((ns.length : Nat) : Int) := by omega
    first
      | (rw [decide_eq_true q'] at h5; exact absurd h5 (by decide))
      | (simp at h5; omega)
  cases hwl with
  | cons w1 w2 =>
    cases w2
    cases w1 with
    | list ho hall => exact ⟨_, _, ns, rfl, rfl, ho, ints_of_wellAll ns _ hall, hlen⟩
theorem post_true (l : OpenLaw) (args : List WData) : l.row.toRowW.claim.post args (.bool true) args = true :=
  postW_of (r := l.row.toRowW) (X := (true == true))
    (show WShape.has [] (.bool true) .bool = true by first | rfl | decide | simp [WShape.has, WShape.arms, WShape.armsAll])
    (show (WTm.eq .res (.lit (.bool true))).value [] { args := args, res := some (.bool true), after := args } = some (.bool (true == true)) from w_eq_bool (w_res rfl) w_lit) rfl
theorem attach_call {l : OpenLaw} {n : Nat} {q : Program} {loose : List Str} {XP : (Str → Option Value) → Heap → Prop} {YP : World → Heap → Prop} {d : DefRec}
    (hn : l.most = some n) (hdf : d.params.defaults = [])
    (call : ∀ (w : World) (s₀ s₁ : Shared) (mg mb : Str → Option Value) (fa : Addr) (o : Obj) (pm cd doc : Value) (a : Addr) (vs : List Value) (ns : List Int),
      Ground q loose [] XP w s₀ mg mb s₁.heap → YP w s₁.heap →
      s₁.heap.get? fa = some o → o.data = .func (docDef d.name d.params d.body d.scope pm cd doc) → s₁.heap.CodeRec cd d.name → mg d.name = some (.ref fa) →
      s₁.heap.get? a = some { cls := .type "list", data := .seq vs.toArray } → IntsAre vs ns → ns.length ≤ n → s₁.gens = #[] →
      codeAny (model l.prog w) callerA (.call (.ref fa) ⟨[.ref a], []⟩) (fun r s' => r = .ok (.ret (.bool true)) ∧ OldK s₁.heap s'.heap ∧ s'.os = s₁.os ∧ AllBare s'.gens) s₁) :
    WalkO q loose XP YP l.row.toRowW d [] (fun f vs => PySem.call f vs) := by
  intro w s₀ s₁ mg mb G Y fa o pm cd doc dV kV ho hd hcd hD hmg hg args vals as hpre hlay hrd hwl hlo
  obtain rfl : dV = .none := Dflts.none hD hdf
  obtain rfl : kV = .none := Dflts.noKw hD
  obtain ⟨a, vs, ns, rfl, rfl, hobj, hints, hlen⟩ := script_of hn hpre hwl
  refine enter_call (codeAny_mono (call w s₀ s₁ mg mb fa o pm cd doc a vs ns G Y ho (fd_plain hd) hcd hmg hobj hints hlen hg) fun r s' hq => ?_)
  obtain ⟨rfl, h2, h3, h4⟩ := hq
  exact ⟨.inl ⟨.bool true, .bool true, [], rfl, fun _ => rfl, .bool true, post_true l _, fun _ => ⟨List.Pairwise.nil, fun _ hm => (nomatch hm)⟩⟩, h2, h3, h4⟩
section
variable {prog : Program} {w : World} {A : Around} {E : Value → Shared → Prop} {s : Shared} {K : Frag}
end
end Att
namespace L2
open PySem PySem.Spec PyProof.Rows
theorem vals_ints : ∀ {vs : List Value} {ns : List Int}, IntsAre vs ns → Vals (ns.map V.int) vs
  | _, _, .nil => .nil
  | _, _, .cons n t h => .cons ⟨t, rfl⟩ (vals_ints h)
def Only (H : Hp) : Prop := ∀ b, H b = none ∨ ∃ o xs, H b = some (.frz o (.lst xs))
theorem law_call {P : Program} {w : World} {K : PySem.W.Frag} {mg mb : Str → Option Value} {CX : CXT} {k : Nat} {fa a : Addr} {fd : FuncData} {x : Str} {sp : Sp} {s₁ : Shared} {vs : List Value} {ns : List Int}
    (KX : K.In s₁.heap) (hns : s₁.heap.Ns mainGlobals mg) (hb : s₁.heap.Ns builtinsNs mb) (hbb : ∀ x : Str, x ≠ "__name__" → mb x = bootBuiltins x) (hlim : s₁.heap.NoLimit) (hg : s₁.gens = #[])
    (ha : s₁.heap.get? a = some { cls := .type "list", data := .seq vs.toArray }) (hi : IntsAre vs ns) (hl : ns.length ≤ sizeLine) (hr : Room k callerA)
    (F : ∀ base : Heap, K.In base → base.Ns mainGlobals mg → FnOk P w K mg base CX k fa fd [x] sp) (hbind : ∀ (s : Shared) (u : Value), BindsTo s fd ⟨[u], []⟩ [(x, u)])
    (hsp : ∀ H : Hp, Only H → SqL K H a (ns.map V.int) → sp [.ref a] H (fun v _ => v = .bl true) fun _ _ _ => False)
    (hCX : ∀ H e s', CX [] H s₁ (fun _ _ _ => False) e s' → False) :
    codeAny (model P w) callerA (.call (.ref fa) ⟨[.ref a], []⟩) (fun r s' => r = .ok (.ret (.bool true)) ∧ OldK s₁.heap s'.heap ∧ s'.os = s₁.os ∧ AllBare s'.gens) s₁ := by
  have rv := vals_ints hi
  have lenV := hi.length
  have core : ∀ H : Hp, Only H → SqL K H a (ns.map V.int) → HOk P w H s₁.heap → (∀ b, H b ≠ none → b = a) → (H a ≠ none → K.lookup a = none) →
      codeAny (model P w) callerA (.call (.ref fa) ⟨[.ref a], []⟩) (fun r s' => r = .ok (.ret (.bool true)) ∧ OldK s₁.heap s'.heap ∧ s'.os = s₁.os ∧ AllBare s'.gens) s₁ := by
    intro H hO hS hok hA hK
    have base_of : ∀ {b : Addr} {o : Obj}, s₁.heap.get? b = some o → H b = none → (hidT s₁.heap H).get? b = some o := fun e n => hidT_get e n
    have noA : ∀ {b : Addr} {o : Obj} {es : Array DictEntry} {ep : Nat}, s₁.heap.get? b = some o → o.data = .dict es ep → H b = none := fun {b o es ep} e d => by
      cases q : H b with
      | none => rfl
      | some u =>
        have e' : b = a := hA b (by rw [q]; simp)
        subst e'
        rw [ha] at e; cases e
        have d' : Data.seq vs.toArray _ = Data.dict es ep := d
        cases d'
    have nsK : ∀ {b : Addr} {m : Str → Option Value}, s₁.heap.Ns b m → (hidT s₁.heap H).Ns b m := fun {b m} ⟨o, es, ep, e, d, r⟩ => ⟨o, es, ep, base_of e (noA e d), d, r⟩
    have hKb : K.In (hidT s₁.heap H) := fun b o e => base_of (KX b o e) (by
      cases q : H b with
      | none => rfl
      | some u =>
        have e' : b = a := hA b (by rw [q]; simp)
        subst e'
        rw [hK (by rw [q]; simp)] at e; cases e)
    have hM : Mod K mg (hidT s₁.heap H) := ⟨hKb, nsK hns, ⟨mb, nsK hb, hbb⟩, let ⟨mc, h1, h2⟩ := hlim; ⟨mc, nsK h1, h2⟩⟩
    have e0 : Env0 P w K mg (hidT s₁.heap H) callerA [] s₁ H := ⟨rfl, hM, fun b o e => of_hidT e, Nat.le_of_eq (hidT_size _ _), trivial, fun b hb => absurd (show b ∈ ([] : List Addr) from hb) (by simp), hok, .of_eq hg⟩
    refine codeAny_mono ((F _ hKb (nsK hns)).run callerA [] s₁ H ⟨[.ref a], []⟩ [.ref a] [.ref a] _ _ hr e0 (hbind s₁ (.ref a)) (.cons rfl .nil) (hsp H hO hS)) fun r s' h => ?_
    cases r with
    | error e => exact (hCX H e s' h).elim
    | ok fl =>
      cases fl with
      | next => exact False.elim h
      | brk => exact False.elim h
      | cont => exact False.elim h
      | ret u =>
        obtain ⟨v, H', os, bare, un, hok', r', q⟩ := h
        have q' : v = .bl true := q
        subst q'
        obtain rfl : u = Value.bool true := r'
        refine ⟨rfl, OldK.of_keep fun b o e => ?_, os, bare⟩
        cases q : H b with
        | none => exact un.keep b o e q (by intro z; exact absurd (show b ∈ ([] : List Addr) from z) (by simp)) (by simp)
        | some u =>
          rcases hO b with z | ⟨ob, xs, z⟩
          · rw [q] at z; cases z
          · have z2 := un.frzs b ob _ z
            obtain ⟨e1, _⟩ := hok b _ z
            obtain ⟨e2, _⟩ := hok' b _ z2
            rw [e] at e1; cases e1
            exact e2
  cases hk : K.lookup a with
  | some o =>
    have e := KX a o hk
    rw [ha] at e
    cases e
    refine core (fun _ => none) (fun _ => .inl rfl) (.inr ⟨_, vs.toArray, _, hk, rfl, rfl, rfl, by rw [List.size_toArray, lenV]; exact hl, by simpa using rv⟩) (fun b u z => by have z' : (none : Option HO) = some u := z; cases z') (fun b z => absurd rfl z) fun z => absurd rfl z
  | none =>
    refine core (fun b => if b = a then some (.frz { cls := .type "list", data := .seq vs.toArray } (.lst (ns.map V.int))) else none) (fun b => ?_) (.inl (.inr ⟨{ cls := .type "list", data := .seq vs.toArray }, if_pos rfl⟩)) (fun b u z => ?_) (fun b z => ?_) fun _ => hk
    · by_cases hb : b = a
      · exact .inr ⟨_, _, if_pos hb⟩
      · exact .inl (if_neg hb)
    · by_cases hb : b = a
      · have z' := (if_pos hb).symm.trans z
        cases z'
        subst hb
        exact ⟨ha, by rw [List.length_map]; exact hl, vs, _, rv, ha⟩
      · have z' := (if_neg hb).symm.trans z
        cases z'
    · by_cases hb : b = a
      · exact hb
      · exact absurd (if_neg hb) z
end L2
namespace L2
open PySem PySem.Spec PyProof.Rows
abbrev KOf {K : PySem.W.Frag} {h : Heap} (_ : K.In h) : PySem.W.Frag := K
theorem walk_of {l : PySem.W.OpenLaw} {n k : Nat} {q : Program} {loose : List Str} {XP : (Str → Option Value) → Heap → Prop} {YP : World → Heap → Prop} {d : DefRec} {K : Params → PySem.W.Frag} {CX : World → CXT} {sp : World → Sp} {x : Str}
    (hn : l.most = some n) (hn2 : n ≤ sizeLine) (hdf : d.params.defaults = []) (hr : Room k callerA)
    (hY : ∀ (w : World) (h : Heap), YP w h → (K w.params).In h)
    (F : ∀ (w : World) (mg : Str → Option Value) (fa : Addr) (h : Heap), (K w.params).In h → h.Ns mainGlobals mg → mg d.name = some (.ref fa) →
      ∃ fd : FuncData, (∀ (s : Shared) (u : Value), BindsTo s fd ⟨[u], []⟩ [(x, u)]) ∧
        ∀ base : Heap, (K w.params).In base → base.Ns mainGlobals mg → FnOk l.prog w (K w.params) mg base (CX w) k fa fd [x] (sp w))
    (hsp : ∀ (w : World) (H : Hp) (a : Addr) (ns : List Int), ns.length ≤ n → Only H → SqL (K w.params) H a (ns.map V.int) → sp w [.ref a] H (fun v _ => v = .bl true) fun _ _ _ => False)
    (hCX : ∀ (w : World) (H : Hp) (s : Shared) (e : Value) (s' : Shared), CX w [] H s (fun _ _ _ => False) e s' → False) :
    PySem.W.WalkO q loose XP YP l.row.toRowW d [] (fun f vs => PySem.call f vs) := by
  refine Att.attach_call hn hdf fun w s₀ s₁ mg mb fa o pm cd doc a vs ns G Y ho hd hcd hmg hobj hints hlen hg => ?_
  have KX := hY w _ Y
  obtain ⟨fd, hb, hF⟩ := F w mg fa _ KX G.T.g hmg
  exact law_call KX G.T.g G.T.b G.T.builtins G.T.nolimit hg hobj hints (Nat.le_trans hlen hn2) hr hF hb (fun H hO hS => hsp w H a ns hlen hO hS) fun H e s' => hCX w H s₁ e s'
end L2
namespace L2
open PySem PySem.Spec PyProof.Rows
def defArgs (s : Stmt) : Arguments := match s with
  | .FunctionDef _ a _ _ _ _ _ _ _ _ => a
  | _ => { posonlyargs := [], args := [], vararg := none, kwonlyargs := [], kw_defaults := [], kwarg := none, defaults := [] }
def defBody (s : Stmt) : List Stmt := match s with
  | .FunctionDef _ _ b _ _ _ _ _ _ _ => b
  | _ => []
def defScope (s : Stmt) : Scope := match s with
  | .FunctionDef _ _ _ _ _ _ sc _ _ _ => sc
  | _ => { kind := .function, names := [], isGenerator := false, isCoroutine := false }
abbrev CX0 : CXT := fun _ _ _ _ _ _ => False
abbrev E0 : XK := fun _ _ _ => False
theorem pass0 {X : Cx} : Passes CX0 X E0 := fun _ _ _ _ _ _ _ h => h.elim
structure Fun (K : PySem.W.Frag) (x qual : Str) (st : Stmt) (f : Addr) (fd : FuncData) : Prop where
  ex : ∃ (oc : Value) (od : Option Addr) (kV doc pm : Value) (an : Option Addr) (cdv ct : Value) (osl : Array (Option Value)),
    fd = PySem.W.fnOf x qual (defArgs st) (defBody st) (defScope st) .none kV doc pm an cdv ct ∧ K.lookup f = some ⟨oc, od, .func fd, osl⟩ ∧ PySem.W.codeIn K cdv qual = true
  kp : PySem.W.keepIn K (.ref f) = true
section
variable {P : Program} {w : World} {K : PySem.W.Frag} {mg : Str → Option Value} {base : Heap}
theorem Fun.ok {x qual : Str} {st : Stmt} {f : Addr} {fd : FuncData} {N ps : List Str} {k : Nat} {sp : Sp} (F : Fun K x qual st f fd) (S : FnScope N ps (defScope st)) (len : ∀ vs H Q E, sp vs H Q E → vs.length = ps.length)
    (hbody : ∀ (cdv : Value) (A : Around) (outer : List Env) (s : Shared) (H : Hp) (vs : List V) (Q : VK) (E : XK), Room k (A.deeper (envOfC qual (defScope st) s.heap.objs.size f cdv)) → sp vs H Q E →
      ∃ t, PSs (cxOf CX0 P w K mg base N qual (defScope st) f cdv A outer s H E).nox (defBody st) t ∧ t { nx := fun _ H' => Q .non H', rt := Q } (start N vs) H) : FnOk P w K mg base CX0 (k + 1) f fd ps sp := by
  obtain ⟨oc, od, kV, doc, pm, an, cdv, ct, osl, rfl, lk, hcd⟩ := F.ex
  refine fn_of lk hcd S len fun A outer s H vs Q E hr hsp => ?_
  obtain ⟨t, h, q⟩ := hbody cdv A outer s H vs Q E hr hsp
  exact ⟨t, h.nox, q⟩
theorem Fun.binds {x qual : Str} {st : Stmt} {f : Addr} {fd : FuncData} {ps : List Str} (F : Fun K x qual st f fd)
    (h : ∀ (kV doc pm : Value) (an : Option Addr) (cdv ct : Value) (us : List Value), us.length = ps.length → bindArgs (PySem.W.fnOf x qual (defArgs st) (defBody st) (defScope st) .none kV doc pm an cdv ct) ⟨us, []⟩ = pure (ps.zip us)) : Binds K fd ps [] := by
  obtain ⟨oc, od, kV, doc, pm, an, cdv, ct, osl, rfl, lk, hcd⟩ := F.ex
  exact .all (h kV doc pm an cdv ct)
theorem fun_mk {x qual : Str} {st : Stmt} {f : Addr} {oc : Value} {od an : Option Addr} {osl : Array (Option Value)} {kV doc pm cdv ct : Value} (l : K.lookup f = some ⟨oc, od, .func (PySem.W.fnOf x qual (defArgs st) (defBody st) (defScope st) .none kV doc pm an cdv ct), osl⟩)
    (c : PySem.W.codeIn K cdv qual = true) (k : PySem.W.keepIn K (.ref f) = true) : Fun K x qual st f (PySem.W.fnOf x qual (defArgs st) (defBody st) (defScope st) .none kV doc pm an cdv ct) := ⟨⟨oc, od, kV, doc, pm, an, cdv, ct, osl, rfl, l, c⟩, k⟩
end
theorem hu_of {A : Around} {k : Nat} (hr : Room k A) : A.units + 1 < cLine := Nat.lt_of_le_of_lt (Nat.add_le_add_left (by decide : 1 ≤ 64) _) hr.units
theorem small1000 {n : Nat} (h : n ≤ 1000) : n < sizeLine := Nat.lt_of_le_of_lt h (by decide)
section
variable {X : Cx}
theorem pv (i : Nat) {x : Str} {pos : Pos} (hN : X.N[i]? = some x := by rfl) (hv : Vis X.env.scope x := by first | exact Or.inl rfl | exact Or.inr (Or.inl rfl) | exact Or.inr (Or.inr rfl)) (hd : (x == ("__debug__" : Str)) = false := by decide)
    (hcd : (x == ("__classdict__" : Str)) = false := by decide) : PE X (.Name x pos) (tVar i) := pe_var hN hv hd hcd
end
theorem iteF {A B : Prop} (h : B) : if false = true then A else B := by
  rw [if_neg Bool.false_ne_true]
  exact h
theorem iteT {A B : Prop} (h : A) : if true = true then A else B := by
  rw [if_pos rfl]
  exact h
theorem ite2 {c A B : Prop} [Decidable c] (h1 : c → A) (h2 : ¬ c → B) : if c then A else B := by
  by_cases h : c
  · rw [if_pos h]
    exact h1 h
  · rw [if_neg h]
    exact h2 h
def Same (H H' : Hp) : Prop := ∀ b o, H b = some o → H' b = some o
theorem Same.refl (H : Hp) : Same H H := fun _ _ h => h
theorem Same.trans {H H1 H2 : Hp} (a : Same H H1) (b : Same H1 H2) : Same H H2 := fun c o h => b c o (a c o h)
theorem Same.free {H H' : Hp} (e : Same H H') {l : Addr} (h : H' l = Option.none) : H l = Option.none := by
  cases q : H l with
  | none => rfl
  | some o =>
    rw [e l o q] at h
    cases h
theorem Same.seq {K : PySem.W.Frag} {H H' : Hp} {a : Addr} {xs : List V} (e : Same H H') (h : SqL K H a xs) : SqL K H' a xs := by
  rcases h with (h | ⟨o, h⟩) | h
  · exact .inl (.inl (e _ _ h))
  · exact .inl (.inr ⟨o, e _ _ h⟩)
  · exact .inr h
end L2
set_option Elab.async false
set_option linter.all false
set_option maxRecDepth 100000
set_option maxHeartbeats 4000000
namespace L2
open PySem PySem.Spec PyProof.Rows
section
variable {X : Cx} {pins : List (Addr × Obj)} {σ : List (Option V)} {H : Hp} {s : Shared} {h' : Heap}
end
section
variable {X : Cx}
theorem call_isinst : CallR X (.builtin "isinstance") (fun xs H Q => ∃ x t T b, xs = [x, .ty T] ∧ TyOf X.K H x t ∧ PySem.W.kitOne X.K t (.type T) = some b ∧ Q (.bl b) H) := by
  intro pins s σ H xs us Q I r h
  obtain ⟨x, t, T, b, rfl, ty, e, q⟩ := h
  obtain ⟨u, w', rfl, rx, ry⟩ := vals2 r
  cases (show w' = Value.type T from ry)
  exact isinst_ok I rx ty e fun tk => ⟨.bl b, H, I.tok _, rfl, q⟩
def rCatA (K : PySem.W.Frag) : R2 := fun x y H Q => ∃ a b xs ys, x = .ref a ∧ y = .ref b ∧ SqT K H a xs ∧ SqT K H b ys ∧ xs.length + ys.length ≤ sizeLine ∧
  (xs = [] → Q (.ref b) H) ∧ (xs ≠ [] → ys = [] → Q (.ref a) H) ∧ (xs ≠ [] → ys ≠ [] → ∀ p, H p = none → Q (.ref p) (upd H p (.tup (xs ++ ys))))
theorem op_catA : OpR X (binaryOp .Add) (rCatA X.K) := by
  intro pins s σ H x y v u Q I rx ry h
  obtain ⟨a, b, xs, ys, rfl, rfl, ha, hb, hz, q0, q1, q2⟩ := h
  cases rx
  cases ry
  by_cases hx : xs = []
  · obtain ⟨its, r1, p1, _⟩ := I.tuple ha
    obtain ⟨its2, r2, p2, _⟩ := I.tuple hb
    obtain ⟨⟨cls, dd, data, sl⟩, ho, hc, n, hd⟩ := id p1
    obtain ⟨⟨cls2, dd2, data2, sl2⟩, ho2, hc2, n2, hd2⟩ := id p2
    simp only at hc hd hc2 hd2
    subst hc hd hc2 hd2
    have hv : its = [] := r1.nil_iff.mpr hx
    exact concat_meets ⟨_, ho, rfl⟩ ⟨_, ho2, rfl⟩ noFill_tuple_add seq_tuple_add PySem.F.slot_tuple_add PySem.F.entry_tuple_add (PySem.F.args_tuple_add_2 _ _)
      (tuple_addW0 a b its.toArray its2.toArray n n2 dd dd2 sl sl2 (by simp [hv])) ⟨ho, ho2, ⟨.ref b, H, I, rfl, q0 hx⟩⟩
  · exact op_catT pins s σ H (.ref a) (.ref b) (.ref a) (.ref b) Q I rfl rfl ⟨a, b, xs, ys, rfl, rfl, ha, hb, hx, hz, q1 hx, q2 hx⟩
theorem eqV_refl : ∀ {x : V}, flatV x = true → eqV x x = true
  | .non, _ => by rfl
  | .bl b, _ => by simp [eqV]
  | .int i, _ => by simp [eqV]
  | .str z, _ => by simp [eqV]
  | .byt _, h => by first | exact absurd (show false = true from h) Bool.false_ne_true | simp [eqV]
  | .flt _, h => by first | exact absurd (show false = true from h) Bool.false_ne_true | simp [eqV]
  | .ref _, h => by first | exact absurd (show false = true from h) Bool.false_ne_true | simp [eqV]
  | .ty _, h => by first | exact absurd (show false = true from h) Bool.false_ne_true | simp [eqV]
theorem same_items {A : Around} {s : Shared} {xs : List V} {its its2 : List Value} (r1 : Vals xs its) (r2 : Vals xs its2) (hf : xs.all flatV = true) :
    ∀ j (h1 : j < its.toArray.size) (h2 : j < its2.toArray.size), SeqAt.EqAt A s its.toArray[j] its2.toArray[j] true := by
  intro j h1 h2
  have hl := r1.length
  have hj : j < xs.length := by simpa [hl] using h1
  have hx : xs[j]? = some xs[j] := by simp [hj]
  obtain ⟨u, hu, ru⟩ := r1.get hx
  obtain ⟨u2, hu2, ru2⟩ := r2.get hx
  have fx : flatV xs[j] = true := List.all_eq_true.mp hf _ (List.getElem_mem hj)
  have e1 : its.toArray[j] = u := by
    have : its[j]? = some its.toArray[j] := by simp at h1; simp [h1]
    rw [hu] at this; exact (Option.some.inj this).symm
  have e2 : its2.toArray[j] = u2 := by
    have : its2[j]? = some its2.toArray[j] := by simp at h2; simp [h2]
    rw [hu2] at this; exact (Option.some.inj this).symm
  rw [e1, e2]
  have := eqAt_V (A := A) (s := s) ru ru2 fx fx
  rw [eqV_refl fx] at this
  exact this
theorem op_eqL_same (hu : X.A.units < cLine) : OpR X (compareOp .Eq) (fun x y H Q => ∃ a b xs, x = .ref a ∧ y = .ref b ∧ SqL X.K H a xs ∧ SqL X.K H b xs ∧ xs.all flatV = true ∧ Q (.bl true) H) := by
  intro pins s σ H x y v u Q I rx ry h
  obtain ⟨a, b, xs, rfl, rfl, ha, hb, hf, q⟩ := h
  cases rx
  cases ry
  obtain ⟨its, r1, p1, _⟩ := I.list ha
  obtain ⟨its2, r2, p2, _⟩ := I.list hb
  have hl1 := r1.length
  have hl2 := r2.length
  refine SeqAt.eq_listAt (e := fun _ => true) p1.isList p2.isList (by simp; omega) hu (same_items r1 r2 hf) ?_
  have e : ((List.range its.toArray.size).all (fun _ => true)) = true := by simp
  rw [e]
  exact ⟨.bl true, H, I, rfl, q⟩
end
end L2
namespace ET
open PySem PySem.Spec
open PySem.AutoSeq1 (wpAny_loadPart')
section
variable {prog : Program} {w : World} {A : Around} {E : Value → Shared → Prop} {s : Shared}
end
end ET
namespace L2
open PySem PySem.Spec PyProof.Rows
section
variable {X : Cx} {elts : List Expr} {k : Nat} {tpos : Pos}
end
end L2
set_option Elab.async false
set_option linter.all false
set_option maxRecDepth 100000
set_option maxHeartbeats 4000000
namespace L2
open PySem PySem.Spec PyProof.Rows
structure Cl (P : Program) (w : World) (K : PySem.W.Frag) (mg : Str → Option Value) (base : Heap) (k : Nat) (x : Str) (ps : List Str) (sp : Sp) : Prop where
  ex : ∃ f fd, FnOk P w K mg base CX0 k f fd ps sp ∧ mg x = some (.ref f) ∧ PySem.W.keepIn K (.ref f) = true ∧ Binds K fd ps []
theorem pe_fn {X : Cx} {j k : Nat} {x : Str} {ps : List Str} {sp : Sp} {e : Expr} {es : List Expr} {t : TA} {p pos : Pos} (C : Cl X.prog X.w X.K X.mg X.base j x ps sp) (hr : Room k X.A) (hg : Gl X x) (ha : PA X (e :: es) t) (hjk : j ≤ k := by decide)
    (hdb : (x == ("__debug__" : Str)) = false := by decide) (he : starEach (e :: es) X.env = (false, eval e X.env) :: starEach es X.env := by rfl) (hpl : (backTo pos (starEach es X.env)).any (·.1) = false := by rfl) :
    PE X (.Call (.Name x p) (e :: es) [] pos) (tCall sp [] E0 t) := by
  obtain ⟨f, fd, F, hm, hk, hb⟩ := C.ex
  exact pe_call F (hr.mono hjk) hg hm hk hb .nil pass0 ha hdb he hpl
def HasDef (K : PySem.W.Frag) (mg : Str → Option Value) (x : Str) (st : Stmt) : Prop := ∃ f fd, Fun K x x st f fd ∧ mg x = some (.ref f)
theorem hasDef_mk {K : PySem.W.Frag} {mg : Str → Option Value} {h : Heap} {x : Str} {st : Stmt} {f : Addr} {oc : Value} {od an : Option Addr} {osl : Array (Option Value)} {kV doc pm cdv ct : Value} (X : K.In h) (G : h.Ns mainGlobals mg)
    (a : PySem.W.nsIn K mainGlobals x = some (some (.ref f))) (l : K.lookup f = some ⟨oc, od, .func (PySem.W.fnOf x x (defArgs st) (defBody st) (defScope st) .none kV doc pm an cdv ct), osl⟩)
    (c : PySem.W.codeIn K cdv x = true) (k : PySem.W.keepIn K (.ref f) = true) : HasDef K mg x st :=
  ⟨f, _, fun_mk l c k, PySem.W.mg_of X G a⟩
theorem Cl.of {P : Program} {w : World} {K : PySem.W.Frag} {mg : Str → Option Value} {base : Heap} {x : Str} {st : Stmt} {N ps : List Str} {k : Nat} {sp : Sp} (T : HasDef K mg x st) (S : FnScope N ps (defScope st)) (len : ∀ vs H Q E, sp vs H Q E → vs.length = ps.length)
    (hb : ∀ (kV doc pm : Value) (an : Option Addr) (cdv ct : Value) (us : List Value), us.length = ps.length → bindArgs (PySem.W.fnOf x x (defArgs st) (defBody st) (defScope st) .none kV doc pm an cdv ct) ⟨us, []⟩ = pure (ps.zip us))
    (hbody : ∀ (f : Addr) (cdv : Value) (A : Around) (outer : List Env) (s : Shared) (H : Hp) (vs : List V) (Q : VK) (E : XK), Room k (A.deeper (envOfC x (defScope st) s.heap.objs.size f cdv)) → sp vs H Q E →
      ∃ t, PSs (cxOf CX0 P w K mg base N x (defScope st) f cdv A outer s H E).nox (defBody st) t ∧ t { nx := fun _ H' => Q .non H', rt := Q } (start N vs) H) : Cl P w K mg base (k + 1) x ps sp := by
  obtain ⟨f, fd, F, m⟩ := T
  exact ⟨f, fd, F.ok S len (fun cdv A outer s H vs Q E => hbody f cdv A outer s H vs Q E), m, F.kp, F.binds hb⟩
def Tups (H H' : Hp) : Prop := ∀ b xs, H b = some (.tup xs) → H' b = some (.tup xs)
section
variable {H H1 H2 : Hp} {l p : Addr} {o : HO} {xs ys : List V}
theorem Same.tups (e : Same H H1) : Tups H H1 := fun b xs q => e b _ q
theorem Tups.trans (a : Tups H H1) (b : Tups H1 H2) : Tups H H2 := fun c xs q => b c xs (a c xs q)
theorem Tups.lst (h : H l = some (.lst xs)) : Tups H (upd H l (.lst ys)) := fun b zs q => by
  rw [upd_ne (ne_of q h (by intro z; cases z))]; exact q
theorem Same.put (s : Same H H1) (h : H l = none) : Same H (upd H1 l o) := fun b u q => by
  rw [upd_ne (ne_of_none q h)]; exact s b u q
theorem Same.new (s : Same H H1) (h : H1 p = none) : Same H (upd H1 p o) := s.put (s.free h)
theorem upd_keep {u : HO} (h : H l = some u) (hp : H p = none) : upd H p o l = some u := by
  rw [upd_ne (ne_of_none h hp)]; exact h
end
theorem atI_getD {α : Type} (xs : List α) (d : α) {i : Int} (h0 : 0 ≤ i) (h1 : i < (xs.length : Int)) : atI xs i = some (xs.getD i.toNat d) := by
  have e : i = ((i.toNat : Nat) : Int) := by omega
  have hl : i.toNat < xs.length := by omega
  have hx : xs[i.toNat]? = some (xs.getD i.toNat d) := by
    rw [List.getD_eq_getElem?_getD]
    simp [hl]
  have := atI_nat hx
  rw [← e] at this
  exact this
theorem atI_map {α : Type} (f : α → V) (xs : List α) (d : α) {i : Int} (h0 : 0 ≤ i) (h1 : i < (xs.length : Int)) : atI (xs.map f) i = some (f (xs.getD i.toNat d)) := by
  have := atI_getD (xs.map f) (f d) h0 (by simpa using h1)
  rw [this, List.getD_eq_getElem?_getD, List.getElem?_map, List.getD_eq_getElem?_getD]
  have hl : i.toNat < xs.length := by omega
  simp [hl]
theorem kit_same (K : PySem.W.Frag) (T : String) : PySem.W.kitOne K (.type T) (.type T) = some true := by
  unfold PySem.W.kitOne
  rw [if_pos (by simp)]
theorem kit_int_bool (K : PySem.W.Frag) : PySem.W.kitOne K (.type "int") (.type "bool") = some false := by kernel_rfl
theorem Paired.get? {α β : Type} {F : α → β → Prop} : ∀ {xs : List α} {ys : List β} {i : Nat} {x : α}, Paired F xs ys → xs[i]? = some x → ∃ y, ys[i]? = some y ∧ F x y
  | _, _, _, _, .nil, e => by simp at e
  | _, _, 0, _, .cons r _, e => by simp at e; subst e; exact ⟨_, rfl, r⟩
  | _, _, i + 1, x, .cons _ t, e => by
    obtain ⟨u, h1, h2⟩ := Paired.get? (i := i) (x := x) t (by simpa using e)
    exact ⟨u, by simpa using h1, h2⟩
theorem Paired.get?' {α β : Type} {F : α → β → Prop} : ∀ {xs : List α} {ys : List β} {i : Nat} {y : β}, Paired F xs ys → ys[i]? = some y → ∃ x, xs[i]? = some x ∧ F x y
  | _, _, _, _, .nil, e => by simp at e
  | _, _, 0, _, .cons r _, e => by simp at e; subst e; exact ⟨_, rfl, r⟩
  | _, _, i + 1, x, .cons _ t, e => by
    obtain ⟨u, h1, h2⟩ := Paired.get?' (i := i) (y := x) t (by simpa using e)
    exact ⟨u, by simpa using h1, h2⟩
theorem take_succ_get {α : Type} {l : List α} {i : Nat} {x : α} (h : l[i]? = some x) : l.take (i + 1) = l.take i ++ [x] := by
  rw [List.take_succ, h]; rfl
end L2
set_option Elab.async false
set_option linter.all false
set_option maxRecDepth 100000
set_option maxHeartbeats 4000000
namespace L2
open PySem PySem.Spec PyProof.Rows
section
variable {X : Cx}
end
section
variable {X : Cx}
theorem log_ok {n : Int} (h1 : 0 ≤ n) (h2 : n < 10 ^ 60) : n.natAbs.log2 < 1920 := by
  have h3 : n.natAbs < 2 ^ 1920 := by
    have : n.natAbs < 10 ^ 60 := by omega
    exact Nat.lt_of_lt_of_le this (by decide)
  by_cases hz : n.natAbs = 0
  · rw [hz]; decide
  · exact (Nat.log2_lt hz).mpr h3
end
end L2
set_option Elab.async false
set_option linter.all false
set_option maxRecDepth 100000
set_option maxHeartbeats 4000000
namespace L2
open PySem PySem.Spec PyProof.Rows
def closL (cells : List (Str × Addr)) : List (Str × NameKind) → List (Str × Addr) → List (Str × Addr)
  | [], cs => cs
  | (n, k) :: r, cs => closL cells r (if k == .free then (n, (cells.lookup n).getD 0) :: cs else cs)
theorem closL_pure {cells : List (Str × Addr)} {env : Env} (he : env.cells = cells) : ∀ (l : List (Str × NameKind)) (cs : List (Str × Addr)), (∀ y ∈ l, y.2 = .free → ∃ c, cells.lookup y.1 = some c) →
    (forIn l cs fun p cs => (do if p.2 == .free then (do let a ← cellOf env p.1; pure (ForInStep.yield ((p.1, a) :: cs))) else pure (ForInStep.yield cs) : Sem (ForInStep (List (Str × Addr))))) = pure (closL cells l cs) := by
  intro l
  induction l with
  | nil => intro cs _; rfl
  | cons p r ih =>
    intro cs h
    obtain ⟨n, k⟩ := p
    rw [List.forIn_cons]
    have hr : ∀ y ∈ r, y.2 = .free → ∃ c, cells.lookup y.1 = some c := fun y hy => h y (List.mem_cons_of_mem _ hy)
    by_cases hk : k = .free
    · subst hk
      obtain ⟨c, hc⟩ := h (n, .free) List.mem_cons_self rfl
      have hc' : env.cells.lookup n = some c := by rw [he]; exact hc
      have e : cellOf env n = pure c := by unfold cellOf; rw [hc']
      simp only [beq_self_eq_true, if_true, e, pure_bind]
      rw [ih _ hr]
      unfold closL
      rw [if_pos (by simp), show (cells.lookup n).getD 0 = c by rw [show cells.lookup n = some c from hc]; rfl]
      conv => rhs; unfold closL
    · have hb : (k == NameKind.free) = false := by simpa using hk
      simp only [hb, Bool.false_eq_true, if_false, pure_bind]
      rw [ih _ hr]
      conv => rhs; unfold closL
      rw [if_neg (by rw [hb]; exact Bool.false_ne_true)]
theorem closL_lookup {cells : List (Str × Addr)} {x : Str} {c : Addr} : ∀ (l : List (Str × NameKind)) (cs : List (Str × Addr)), (∀ y ∈ l, y.2 = .free → ∃ c, cells.lookup y.1 = some c) → (closL cells l cs).lookup x = some c → cells.lookup x = some c ∨ cs.lookup x = some c
  | [], cs, _, h => .inr h
  | (n, k) :: r, cs, hy, h => by
    unfold closL at h
    rcases closL_lookup r _ (fun y q => hy y (List.mem_cons_of_mem _ q)) h with h | h
    · exact .inl h
    · by_cases hk : k = .free
      · subst hk
        obtain ⟨c', hc⟩ := hy (n, .free) List.mem_cons_self rfl
        have hc : cells.lookup n = some c' := hc
        rw [if_pos (by simp), List.lookup_cons] at h
        split at h
        · rename_i e
          have e' : x = n := by simpa using e
          subst e'
          rw [hc] at h
          cases h
          exact .inl hc
        · exact .inr h
      · rw [if_neg (by simpa using hk)] at h
        exact .inr h
theorem closL_keep {cells : List (Str × Addr)} {x : Str} : ∀ (l : List (Str × NameKind)) (cs : List (Str × Addr)), (∃ c, cs.lookup x = some c) → ∃ c, (closL cells l cs).lookup x = some c
  | [], _, h => h
  | (n, k) :: r, cs, h => by
    unfold closL
    refine closL_keep r _ ?_
    split
    · rw [List.lookup_cons]
      split
      · exact ⟨_, rfl⟩
      · exact h
    · exact h
theorem closL_has {cells : List (Str × Addr)} {x : Str} : ∀ (l : List (Str × NameKind)) (cs : List (Str × Addr)), (x, NameKind.free) ∈ l → ∃ c, (closL cells l cs).lookup x = some c
  | (n, k) :: r, cs, h => by
    unfold closL
    rcases List.mem_cons.mp h with e | h
    · cases e
      refine closL_keep r _ ?_
      rw [if_pos (by simp), List.lookup_cons]
      simp
    · exact closL_has r _ h
theorem closure_pure {sc : Scope} {env : Env} (h : ∀ y ∈ sc.names, y.2 = .free → ∃ c, env.cells.lookup y.1 = some c) : closureFor sc env = pure (closL env.cells sc.names []) := by
  have := closL_pure (env := env) rfl sc.names [] h
  unfold closureFor
  simp only [bind_pure]
  exact this
theorem relabel_free {env : Env} {x : Str} : ∀ {names : List (Str × NameKind)}, names.lookup x = some .free →
    (names.map fun (n, k) => if (k == NameKind.free && env.scope.kind == .function && env.kindOf n == some .cell) then (n, NameKind.cell) else (n, k)).lookup x = some .cell ∨
    (names.map fun (n, k) => if (k == NameKind.free && env.scope.kind == .function && env.kindOf n == some .cell) then (n, NameKind.cell) else (n, k)).lookup x = some .free
  | [], h => by simp at h
  | (n, k) :: r, h => by
    have ih := @relabel_free env x r
    simp only [List.map_cons]
    by_cases hc : (k == NameKind.free && env.scope.kind == .function && env.kindOf n == some .cell) = true
    · rw [if_pos hc]
      simp only [List.lookup_cons] at h ⊢
      cases hx : x == n with
      | true => exact .inl rfl
      | false => simp only [hx] at h ⊢; exact ih h
    · rw [if_neg hc]
      simp only [List.lookup_cons] at h ⊢
      cases hx : x == n with
      | true => simp only [hx] at h ⊢; exact .inr h
      | false => simp only [hx] at h ⊢; exact ih h
theorem relabel_back {env : Env} {x : Str} : ∀ {names : List (Str × NameKind)},
    (names.map fun (n, k) => if (k == NameKind.free && env.scope.kind == .function && env.kindOf n == some .cell) then (n, NameKind.cell) else (n, k)).lookup x = some .cell ∨
    (names.map fun (n, k) => if (k == NameKind.free && env.scope.kind == .function && env.kindOf n == some .cell) then (n, NameKind.cell) else (n, k)).lookup x = some .free →
    (x, NameKind.free) ∈ names ∨ (x, NameKind.cell) ∈ names
  | [], h => by simp at h
  | (n, k) :: r, h => by
    have ih := @relabel_back env x r
    simp only [List.map_cons] at h
    have tl : (x, NameKind.free) ∈ r ∨ (x, NameKind.cell) ∈ r → (x, NameKind.free) ∈ (n, k) :: r ∨ (x, NameKind.cell) ∈ (n, k) :: r := fun q => q.imp (List.mem_cons_of_mem _) (List.mem_cons_of_mem _)
    by_cases hc : (k == NameKind.free && env.scope.kind == .function && env.kindOf n == some .cell) = true
    · rw [if_pos hc] at h
      have hk : k = .free := by
        simp only [Bool.and_eq_true] at hc
        simpa using hc.1.1
      simp only [List.lookup_cons] at h
      cases hx : x == n with
      | true =>
        have e : x = n := by simpa using hx
        subst e hk
        exact .inl List.mem_cons_self
      | false => simp only [hx] at h; exact tl (ih h)
    · rw [if_neg hc] at h
      simp only [List.lookup_cons] at h
      cases hx : x == n with
      | true =>
        have e : x = n := by simpa using hx
        subst e
        simp only [hx] at h
        rcases h with h | h
        · cases h; exact .inr List.mem_cons_self
        · cases h; exact .inl List.mem_cons_self
      | false => simp only [hx] at h; exact tl (ih h)
structure CompScope (osc : Scope) (N : List Str) (sc : Scope) (M : List Str) (ρ : List (Option Nat)) : Prop where
  kind : sc.kind = .function
  nocell : ∀ y ∈ sc.names, y.2 ≠ .cell
  own : ∀ y ∈ sc.names, y.2 = .local → sc.names.lookup y.1 = some .local
  fre : ∀ y ∈ sc.names, y.2 = .free → osc.names.lookup y.1 = some .cell ∨ osc.names.lookup y.1 = some .free
  len : ρ.length = M.length
  ren : ∀ p ∈ ρ.zip M, (match p.1 with | none => true | some i => decide (N[i]? = some p.2 ∧ sc.names.lookup p.2 = some .free)) = true
  nd : M.Nodup
def subS (ρ : List (Option Nat)) (σ : St) : St := ρ.map fun o => match o with | none => none | some i => (σ[i]?).join
def cxComp (X : Cx) (sc : Scope) (cl : List (Str × Addr)) (C : Addr) (M : List Str) (s : Shared) (H : Hp) (fp : List Addr) (xe : Value → Shared → Prop) : Cx where
  prog := X.prog
  w := X.w
  K := X.K
  mg := X.mg
  base := X.base
  A := X.A
  N := M
  s₀ := s
  H₀ := H
  env := compEnvC sc cl C X.env
  outer := X.stack
  stack := X.stack
  ex := fp
  fn := fun _ => false
  calm := X.calm
  pn := []
  xe := xe
theorem comp_loop {P : Program} {w : World} {A : Around} {R : Result → Shared → Prop} {s : Shared} {elt tg iter : Expr} {ifs : List Expr} {sc : Scope} {pos : Pos} {it acc : Value} {env : Env} (J : Nat → Shared → Prop)
    (turn : ∀ n s, J n s → wpAny (model P w) A (pyNext it) (fun r s1 => match r with
      | none => R (.ok .next) s1
      | some v => wpAny (model P w) A (letOwnedTupleGo tg it v) (fun _ s2 => wpAny (model P w) A (assign tg env v) (fun _ s3 =>
          wpAny (model P w) A (forIn ifs true fun c r => if r = true then do let ok ← isTrue c env (eval c env); pure (ForInStep.yield ok) else pure (ForInStep.yield r)) (fun ok s4 =>
            if ok = true then wpAny (model P w) A (eval elt env) (fun x s5 => wpAny (model P w) A (call (.builtin "list.append") [acc, x]) (fun _ s6 => ∃ m, m < n ∧ J m s6) (notedBy (model P w) A env fun e s' => R (.error e) s') s5)
              (notedBy (model P w) A env fun e s' => R (.error e) s') s4
            else ∃ m, m < n ∧ J m s4) (notedBy (model P w) A env fun e s' => R (.error e) s') s3) (notedBy (model P w) A env fun e s' => R (.error e) s') s2) (notedBy (model P w) A env fun e s' => R (.error e) s') s1)
      (notedBy (model P w) A env fun e s' => R (.error e) s') s)
    (n : Nat) (h : J n s) : codeAny (model P w) A (.compLoop (.ListComp elt [⟨tg, iter, ifs, 0⟩] sc pos) 0 it acc env) R s := by
  refine codeAny_loop rfl J (fun n s hJ => ?_) n h
  show wpAny (model P w) A ((compTurn (.ListComp elt [⟨tg, iter, ifs, 0⟩] sc pos) 0 it acc env).onRaise fun x => do noteFrame x env; theTreesLotGoes x) _ _ s
  refine wpAny_noted ?_
  rw [compTurn_list]
  refine wpAny_bind (wpAny_standAt (wpAny_bind (thn (turn n s hJ) fun r s1 h1 => ?_)))
  cases r with
  | none => exact wpAny_pure h1
  | some v =>
    refine wpAny_bind (thn h1 fun _ s2 h2 => wpAny_bind (thn h2 fun _ s3 h3 => wpAny_bind (thn h3 fun ok s4 h4 => ?_)))
    cases ok with
    | false => exact wpAny_pure ⟨rfl, h4⟩
    | true => exact wpAny_bind (wpAny_bind (thn h4 fun x s5 h5 => wpAny_bind (thn h5 fun _ s6 h6 => wpAny_pure (wpAny_pure ⟨rfl, h6⟩))))
def PTs (X : Cx) (ifs : List Expr) (t : TT) : Prop :=
  ∀ (pins : List (Addr × Obj)) (s : Shared) (σ : St) (H : Hp) (Q : Bool → Hp → Prop), Inv X pins σ H s → t σ H Q →
    wpAny (model X.prog X.w) X.A (forIn ifs true fun c r => if r = true then do let ok ← isTrue c X.env (eval c X.env); pure (ForInStep.yield ok) else pure (ForInStep.yield r)) (TP X pins σ Q) X.xe s
def tNoTest : TT := fun _ H Q => Q true H
theorem ntG {i : Nat} {v : V} {σ : St} {H : Hp} {A B : St → Hp → Prop} (h : A (σ.set i (some v)) H) : gName i v σ H (fun σ4 H4 => tNoTest σ4 H4 fun b H5 => if b = true then A σ4 H5 else B σ4 H5) := by
  show if true = true then A (σ.set i (some v)) H else B (σ.set i (some v)) H
  exact iteT h
theorem pts_nil {X : Cx} : PTs X [] tNoTest := fun _ _ _ H _ I h => wpAny_tests_nil ⟨H, I, h⟩
theorem pts_one {X : Cx} {c : Expr} {t : TT} (h : PT X c t) : PTs X [c] t := fun pins s σ H Q I q => wpAny_tests_one (h pins s σ H Q I q)
def tComp (wi : TI) (ρ : List (Option Nat)) (g : TG) (tt : TT) (te : TE) : TE := fun σ H Q => wi σ H fun J H1 => ∀ D, H1 D = none → ∃ W : Nat → Nat → St → Hp → Prop, (∃ m, W 0 m (subS ρ σ) (upd H1 D (.lst []))) ∧ ∀ i m σ2 H2, W i m σ2 H2 →
  (J.stop i H2 ∧ Q (.ref D) H2) ∨ (J.go i H2 ∧ ∃ N : St → Hp → Prop, (∀ σ' H', N σ' H' → ∃ m', m' < m ∧ W (i + 1) m' σ' H') ∧ ∀ x H3, J.yld i H2 x H3 → g x σ2 H3 fun σ4 H4 => tt σ4 H4 fun b H5 =>
    if b = true then te σ4 H5 fun y H6 => ∃ ys, H6 D = some (.lst ys) ∧ ys.length < sizeLine ∧ N σ4 (upd H6 D (.lst (ys ++ [y])))
    else N σ4 H5)
theorem comp_by {J : It} {g : TG} {tt : TT} {te : TE} {Q : Hp → Prop} {σ : St} {H : Hp} {D : Addr} (n : Nat) (Pv : Nat → St → Hp → Prop) (h0 : Pv 0 σ (upd H D (.lst [])))
    (hs : ∀ i σ2 H2, i < n → Pv i σ2 H2 → J.go i H2 ∧ ∀ x H3, J.yld i H2 x H3 → g x σ2 H3 fun σ4 H4 => tt σ4 H4 fun b H5 =>
      if b = true then te σ4 H5 fun y H6 => ∃ ys, H6 D = some (.lst ys) ∧ ys.length < sizeLine ∧ Pv (i + 1) σ4 (upd H6 D (.lst (ys ++ [y]))) else Pv (i + 1) σ4 H5)
    (hd : ∀ σ2 H2, Pv n σ2 H2 → J.stop n H2 ∧ Q H2) :
    ∃ W : Nat → Nat → St → Hp → Prop, (∃ m, W 0 m σ (upd H D (.lst []))) ∧ ∀ i m σ2 H2, W i m σ2 H2 →
      (J.stop i H2 ∧ Q H2) ∨ (J.go i H2 ∧ ∃ N : St → Hp → Prop, (∀ σ' H', N σ' H' → ∃ m', m' < m ∧ W (i + 1) m' σ' H') ∧ ∀ x H3, J.yld i H2 x H3 → g x σ2 H3 fun σ4 H4 => tt σ4 H4 fun b H5 =>
        if b = true then te σ4 H5 fun y H6 => ∃ ys, H6 D = some (.lst ys) ∧ ys.length < sizeLine ∧ N σ4 (upd H6 D (.lst (ys ++ [y]))) else N σ4 H5) := by
  refine ⟨fun i m σ H => m = n - i ∧ i ≤ n ∧ Pv i σ H, ⟨n, by simp, Nat.zero_le _, h0⟩, ?_⟩
  rintro i m σ2 H2 ⟨rfl, hi, p⟩
  by_cases hlt : i < n
  · obtain ⟨h1, h2⟩ := hs i σ2 H2 hlt p
    exact .inr ⟨h1, Pv (i + 1), fun σ' H' p' => ⟨n - (i + 1), by omega, rfl, hlt, p'⟩, h2⟩
  · have e : i = n := by omega
    subst e
    exact .inl (hd σ2 H2 p)
section
variable {X : Cx} {tg elt iter : Expr} {ifs : List Expr} {sc : Scope} {pos : Pos} {M : List Str} {ρ : List (Option Nat)} {wi : TI} {g : TG} {tt : TT} {te : TE}
theorem comp_block (osc : Scope) (hosc : X.env.scope = osc) (N : List Str) (hN : X.N = N) (S : CompScope osc N sc M ρ) (hc : X.calm = true)
    (hg : ∀ cl C s H fp xe, PG (cxComp X sc cl C M s H fp xe) tg g) (ht : ∀ cl C s H fp xe, PTs (cxComp X sc cl C M s H fp xe) ifs tt) (he : ∀ cl C s H fp xe, PE (cxComp X sc cl C M s H fp xe) elt te)
    {pins : List (Addr × Obj)} {σ : St} {H : Hp} {s : Shared} {itv : Value} {Q : VK} {RR : Value → Addr → Result → Shared → Prop} (I : Inv X pins σ H s)
    (h2 : PIE X pins σ tg (fun J H1 => ∀ D, H1 D = none → ∃ W : Nat → Nat → St → Hp → Prop, (∃ m, W 0 m (subS ρ σ) (upd H1 D (.lst []))) ∧ ∀ i m σ2 H2, W i m σ2 H2 →
      (J.stop i H2 ∧ Q (.ref D) H2) ∨ (J.go i H2 ∧ ∃ N : St → Hp → Prop, (∀ σ' H', N σ' H' → ∃ m', m' < m ∧ W (i + 1) m' σ' H') ∧ ∀ x H3, J.yld i H2 x H3 → g x σ2 H3 fun σ4 H4 => tt σ4 H4 fun b H5 =>
        if b = true then te σ4 H5 fun y H6 => ∃ ys, H6 D = some (.lst ys) ∧ ys.length < sizeLine ∧ N σ4 (upd H6 D (.lst (ys ++ [y])))
        else N σ4 H5)) itv s)
    (hR : ∀ (D C : Addr) (H' : Hp) (s' : Shared) (mC : Str → Option Value), Inv X pins σ H' s' → s'.heap.Ns C mC → FpOk X pins H' C → Q (.ref D) H' → RR (.ref D) C (.ok .next) s') :
    wpAny (model X.prog X.w) X.A (newList []) (fun acc s3 => wpAny (model X.prog X.w) X.A (newFunctionEnv sc X.env.globals (closL X.env.cells sc.names []) [] X.env.qual none .none (some X.env)) (fun cenv s4 =>
      codeAny (model X.prog X.w) X.A (.compStart (.ListComp elt [⟨tg, iter, ifs, 0⟩] sc pos) 0 itv acc { cenv with scope := relabel sc X.env }) (RR acc cenv.locals) s4) X.xe s3) X.xe s := by
  subst hosc hN
  obtain ⟨it, fp, tn, J, H2, rfl, I2, T, st2, f2, q2⟩ := h2
  have hcells : ∀ y ∈ sc.names, y.2 = .free → ∃ c, X.env.cells.lookup y.1 = some c := fun y hy hf => I2.ok.has y.1 (S.fre y hy hf)
  have hclx : ∀ {x c}, (closL X.env.cells sc.names []).lookup x = some c → X.env.cells.lookup x = some c := fun {x c} e => (closL_lookup _ _ hcells e).elim id fun z => by simp at z
  generalize hcl : closL X.env.cells sc.names [] = cl at hclx ⊢
  refine wpAny_newObj_type (wpAny_newFunctionEnv S.nocell (by intro y hy; simp at hy) (fun h1 hns hsb => ?_) S.kind)
  dsimp only at hns hsb ⊢
  generalize hG : s.heap.push { cls := .type "list", dict := none, data := .seq ([] : List Value).toArray } = G at hns hsb ⊢
  have hC : G.objs.size = s.heap.objs.size + 1 := by rw [← hG, Heap.size_push]
  have old : ∀ b o, s.heap.get? b = some o → h1.get? b = some o := fun b o e =>
    hsb.extBut b o (Nat.ne_of_lt (by rw [hC]; exact Nat.lt_succ_of_lt (Heap.lt_size e))) (Heap.get?_push_of_some _ (hG ▸ Heap.get?_push_of_some _ e))
  have hD1 : h1.get? s.heap.objs.size = some { cls := .type "list", dict := none, data := .seq ([] : List Value).toArray } :=
    hsb.extBut _ _ (by rw [hC]; exact Nat.ne_of_lt (Nat.lt_succ_self _)) (Heap.get?_push_of_some _ (hG ▸ Heap.get?_push_size _ rfl))
  have hDn : H2 s.heap.objs.size = none := I2.hok.fresh (Nat.le_refl _)
  obtain ⟨W, ⟨m0, w0⟩, turn⟩ := q2 s.heap.objs.size hDn
  have hCle : s.heap.objs.size ≤ G.objs.size := by rw [hC]; exact Nat.le_succ _
  have hCD : G.objs.size ≠ s.heap.objs.size := by rw [hC]; exact Nat.succ_ne_self _
  generalize hxe : notedBy (model X.prog X.w) X.A (compEnvC sc cl G.objs.size X.env) (fun e s' => RR (.ref s.heap.objs.size) G.objs.size (.error e) s') = xe
  have fpC : ∀ b ∈ fp, b ≠ G.objs.size := fun b hb => by
    obtain ⟨o, e, _⟩ := T.obj 0 _ st2 b hb
    have := Heap.lt_size e
    exact Nat.ne_of_lt (Nat.lt_of_lt_of_le this hCle)
  have fpS : ∀ b ∈ fp, b ∉ frs X.stack := fun b hb z => by
    obtain ⟨f0, f1, f3, _⟩ := f2 b hb
    rcases List.mem_cons.mp (I2.stkSub b z) with e | e
    · exact f1 e
    · exact f3 e
  have hok : (cxComp X sc cl G.objs.size M s H2 fp xe).Ok := by
    refine ⟨I2.ok.mod, S.kind, I2.ok.glob, I2.ok.blt, hCle, fun x y c e1 e2 => I2.ok.inj x y c (hclx e1) (hclx e2), fun x hx => ?_, (fun x c e _ => absurd (show false = true from e) Bool.false_ne_true), I2.ok.hd, I2.ok.frames, .inl rfl, fun b hb => ⟨fpC b hb, fun x c e => (f2 b hb).2.2.2.2.1 x c (hclx e)⟩,
      I2.bs, Nat.le_trans I2.ok.bsz I2.sz, fun b o e hb => ?_, fpS, I2.stack, I2.stkFree⟩
    · rcases relabel_back (names := sc.names) (env := X.env) hx with q | q
      · rw [← hcl]; exact closL_has _ _ q
      · exact absurd rfl (S.nocell _ q)
    · rcases (f2 b hb).2.2.2.1 with z | z
      · exact I2.ok.noex b o e z
      · exact absurd (Nat.lt_of_lt_of_le (Heap.lt_size e) (Nat.le_trans I2.ok.bsz z)) (Nat.lt_irrefl _)
  have I4 : Inv (cxComp X sc cl G.objs.size M s H2 fp xe) [] (subS ρ σ) (upd H2 s.heap.objs.size (.lst [])) { s with heap := h1, toks := s.toks + ([] : List (Str × Value)).length } := by
    refine ⟨hok, rfl, I2.bare, Un.laid old (Nat.le_refl _) hDn, ⟨_, hns, fun j x v e1 e2 _ => ?_⟩, fun x c e => ?_, ?_, fun x c e => ?_, fun p hp => absurd (show p ∈ ([] : List (Addr × Obj)) from hp) (by simp), I2.hok.laid old (Nat.le_refl _) ⟨by show 0 ≤ sizeLine; decide, [], 0, .nil, hD1⟩, ?_⟩
    · unfold subS at e2
      rw [List.getElem?_map] at e2
      cases q : ρ[j]? with
      | none => rw [q] at e2; cases e2
      | some o =>
        rw [q] at e2
        cases o with
        | none => cases e2
        | some i =>
          have e2' : (σ[i]?).join = some v := Option.some.inj e2
          have e3 : σ[i]? = some (some v) := by
            cases z : σ[i]? with
            | none => rw [z] at e2'; cases e2'
            | some y => rw [z] at e2'; cases y with
              | none => cases e2'
              | some y => cases e2'; rfl
          have hz : (ρ.zip M)[j]? = some (some i, x) := List.getElem?_zip_eq_some.mpr ⟨q, e1⟩
          have hr := S.ren (some i, x) (List.mem_of_getElem? hz)
          obtain ⟨r1, r2⟩ := of_decide_eq_true hr
          obtain ⟨m, hn, hl⟩ := I2.loc
          have hfr := S.fre _ (PySem.mem_of_lookup r2) rfl
          obtain ⟨u, ru, lk⟩ := hl i x v r1 e3 (hfr.elim (fun z => .inr (.inl z)) fun z => .inr (.inr z))
          refine ⟨u, ru, ?_⟩
          rcases lk with ⟨k, _⟩ | ⟨_, c, hcc, cell⟩
          · have k' : X.env.scope.names.lookup x = some .local := k
            rcases hfr with z | z
            · rw [k'] at z; cases z
            · rw [k'] at z; cases z
          · obtain ⟨c', hc'⟩ := closL_has (cells := X.env.cells) sc.names [] (PySem.mem_of_lookup r2)
            rw [hcl] at hc'
            have := hclx hc'
            rw [hcc] at this
            cases this
            obtain ⟨oc, ho, hd⟩ := cell
            exact .inr ⟨relabel_free r2, _, hc', oc, old _ _ ho, hd⟩
    · obtain ⟨v, oc, ho, hd⟩ := I2.cell x c (hclx e)
      exact ⟨v, oc, old _ _ ho, hd⟩
    · show upd H2 s.heap.objs.size (.lst []) G.objs.size = none
      rw [upd_ne hCD]
      exact I2.hok.fresh hCle
    · show upd H2 s.heap.objs.size (.lst []) c = none
      obtain ⟨v, oc, ho, hd⟩ := I2.cell x c (hclx e)
      rw [upd_ne (Nat.ne_of_lt (Heap.lt_size ho))]
      exact I2.freeC x c (hclx e)
    · show (subS ρ σ).length = M.length
      unfold subS
      rw [List.length_map, S.len]
  have st4 : tn 0 h1 := T.keep 0 _ _ st2 fun b _ o e => old b o e
  have fr4 : ∀ b ∈ fp, upd H2 s.heap.objs.size (.lst []) b = none := fun b hb => by
    obtain ⟨o, e, _⟩ := T.obj 0 _ st2 b hb
    rw [upd_ne (Nat.ne_of_lt (Heap.lt_size e))]
    exact (f2 b hb).1
  have stat : ∀ {H' : Hp}, (∀ b ∈ fp, H' b = none) → ∀ b ∈ fp, FpOk (cxComp X sc cl G.objs.size M s H2 fp xe) [] H' b := fun hn b hb =>
    ⟨hn b hb, fpC b hb, fpS b hb, .inl hb, fun x c e => (f2 b hb).2.2.2.2.1 x c (hclx e), fun p hp => absurd (show p ∈ ([] : List (Addr × Obj)) from hp) (by simp)⟩
  have loop : codeAny (model X.prog X.w) X.A (.compLoop (.ListComp elt [⟨tg, iter, ifs, 0⟩] sc pos) 0 (.ref it) (.ref s.heap.objs.size) (compEnvC sc cl G.objs.size X.env)) (RR (.ref s.heap.objs.size) G.objs.size)
      { s with heap := h1, toks := s.toks + ([] : List (Str × Value)).length } := by
    refine comp_loop (fun n s' => ∃ i σ' H', Inv (cxComp X sc cl G.objs.size M s H2 fp xe) [] σ' H' s' ∧ tn i s'.heap ∧ (∀ b ∈ fp, H' b = none) ∧ W i n σ' H') ?_ m0 ⟨0, _, _, I4, st4, fr4, w0⟩
    rw [hxe]
    rintro n s3 ⟨i, σ3, H3, I3, st3, fr3, w3⟩
    rcases turn i n σ3 H3 w3 with ⟨stop, qn⟩ | ⟨go, N, hN, step⟩
    · refine thn (T.done (cxComp X sc cl G.objs.size M s H2 fp xe) rfl rfl rfl hc i [] s3 σ3 H3 xe I3 (stat fr3) st3 stop) fun r s4 ⟨hr, I5⟩ => ?_
      subst hr
      obtain ⟨mC, nC, _⟩ := I5.loc
      have I6 : Inv X pins σ H3 s4 := I2.call' I5.os I5.base I5.hok I5.bare fun b hb => ⟨(f2 b hb).2.2.2.1, (f2 b hb).2.1, (f2 b hb).2.2.2.2.1, (f2 b hb).2.2.2.2.2⟩
      exact hR _ _ H3 s4 mC I6 nC (I2.fpOk hCle I5.free) qn
    · refine thn (T.item (cxComp X sc cl G.objs.size M s H2 fp xe) rfl rfl rfl hc i [] s3 σ3 H3 xe I3 (stat fr3) st3 go) fun r s4 ⟨u, hr, h4⟩ => ?_
      subst hr
      refine thn h4 fun _ s5 ⟨x, H5, I5, r5, y5, st5, fr5⟩ => ?_
      have I5' := I5.pinned (stat fr5) (T.obj _ _ st5)
      refine thn (hg cl G.objs.size s H2 fp xe _ s5 σ3 H5 x u _ I5' r5 (step x H5 y5)) fun _ s6 ⟨σ6, H6, I6, q6⟩ => ?_
      have fin : ∀ {s7 : Shared} {σ7 : St} {H7 : Hp}, Inv (cxComp X sc cl G.objs.size M s H2 fp xe) ([] ++ pinsAt fp s5.heap) σ7 H7 s7 → (∃ m', m' < n ∧ W (i + 1) m' σ7 H7) →
          ∃ m, m < n ∧ ∃ i σ' H', Inv (cxComp X sc cl G.objs.size M s H2 fp xe) [] σ' H' s7 ∧ tn i s7.heap ∧ (∀ b ∈ fp, H' b = none) ∧ W i m σ' H' := fun {s7 σ7 H7} I7 ⟨m', hm, w7⟩ => by
        refine ⟨m', hm, i + 1, σ7, H7, I7.unpinned, T.keep _ _ _ st5 fun b hb o e => (I7.pin (b, o) (List.mem_append_right _ (List.mem_append_right _ (mem_pinsAt hb e)))).1, fun b hb => ?_, w7⟩
        obtain ⟨o, e, d⟩ := T.obj _ _ st5 b hb
        exact (I7.pin (b, o) (List.mem_append_right _ (List.mem_append_right _ (mem_pinsAt hb e)))).2.1
      refine thn (ht cl G.objs.size s H2 fp xe _ s6 σ6 H6 _ I6 q6) fun ok s7 ⟨H7, I7, q7⟩ => ?_
      cases ok with
      | false =>
        rw [if_neg Bool.false_ne_true] at q7 ⊢
        exact fin I7 (hN _ _ q7)
      | true =>
        rw [if_pos rfl] at q7 ⊢
        refine thn (he cl G.objs.size s H2 fp xe _ s7 σ6 H7 _ I7 q7) fun y s8 ⟨yv, H8, I8, r8, ys, hys, hlt, q8⟩ => ?_
        obtain ⟨z, its, k, rv, hl, e⟩ := I8.lstM hys
        refine call_meets F.slot_list_append ⟨_, e, rfl⟩ F.entry_list_append (F.args_list_append_2 _ _) (PySem.list_append _ its.toArray k y (by rw [List.size_toArray]; omega)) ⟨e, ?_⟩
        exact fin (I8.lset (its' := its ++ [y]) hys e (by simp) (rv.append (.cons r8 .nil)) (by rw [List.length_append, List.length_singleton]; omega)) (hN _ _ q8)
  exact codeAny_compStart_list loop (T.self X.A 0 _ _ _ st4 loop)
theorem pe_comp (osc : Scope) (N : List Str) (S : CompScope osc N sc M ρ) (hi : PI X tg iter wi) (hg : ∀ cl C s H fp xe, PG (cxComp X sc cl C M s H fp xe) tg g) (ht : ∀ cl C s H fp xe, PTs (cxComp X sc cl C M s H fp xe) ifs tt)
    (he : ∀ cl C s H fp xe, PE (cxComp X sc cl C M s H fp xe) elt te) (hosc : X.env.scope = osc := by rfl) (hN : X.N = N := by rfl) (hc : X.calm = true := by rfl) (hs : ∀ x, foldedSetIterable iter X.env x = pure x := by intro _; rfl) :
    PE X (.ListComp elt [⟨tg, iter, ifs, 0⟩] sc pos) (tComp wi ρ g tt te) := by
  intro pins s σ H Q I h
  have hcells : ∀ y ∈ sc.names, y.2 = .free → ∃ c, X.env.cells.lookup y.1 = some c := fun y hy hf => I.ok.has y.1 (by show X.env.scope.names.lookup y.1 = _ ∨ X.env.scope.names.lookup y.1 = _; rw [hosc]; exact S.fre y hy hf)
  rw [eval_ListComp]
  refine wpAny_comprehension_free (M := model X.prog X.w) (A := X.A) (E := X.xe) (e := .ListComp elt [⟨tg, iter, ifs, 0⟩] sc pos) rfl hs (closure_pure hcells) S.kind S.own (thn (hi pins s σ H _ I h) fun v s1 h1 => thn h1 fun itv s2 h2 => ?_)
  obtain ⟨_, _, _, _, _, _, I2, _⟩ := id h2
  refine comp_block (RR := fun acc C => compPost (model X.prog X.w) X.A X.xe none (EP X pins σ Q) acc C) osc hosc N hN S hc hg ht he I2 h2 fun D C H' s' mC I' nC fC q => ?_
  refine ⟨mC, nC, fun h' sb => ?_⟩
  obtain ⟨f0, f1, _, f3, f4, f5⟩ := fC
  exact ⟨.ref D, H', I'.turned (t' := s'.toks) (fun b o hb e => (sb.2 b hb).trans e) f0 f1 f3 f4 f5, rfl, q⟩
end
end L2
set_option Elab.async false
set_option linter.all false
set_option maxRecDepth 100000
set_option maxHeartbeats 4000000
namespace L2
open PySem PySem.Spec PyProof.Rows
section
variable {X : Cx} {tg : Expr}
theorem ix_listK {K : PySem.W.Frag} (h : X.K = K) : IxR X (rIxL K) := h ▸ ix_list
theorem ix_tupK {K : PySem.W.Frag} (h : X.K = K) : IxR X (rIxT K) := h ▸ ix_tup
end
end L2
set_option Elab.async false
set_option linter.all false
set_option maxRecDepth 100000
set_option maxHeartbeats 4000000
namespace L2
open PySem PySem.Spec PyProof.Rows
end L2
set_option Elab.async false
set_option linter.all false
set_option maxRecDepth 100000
set_option maxHeartbeats 4000000
namespace L2
open PySem PySem.Spec PyProof.Rows
section
variable {X : Cx} {elts : List Expr} {k : Nat} {tpos : Pos}
end
end L2
set_option Elab.async false
set_option linter.all false
set_option maxRecDepth 100000
set_option maxHeartbeats 4000000
namespace L2
open PySem PySem.Spec PyProof.Rows
section
variable {X : Cx}
theorem mt_bit_length : MtR X "int.bit_length" (fun x vs H Q => ∃ i : Int, x = .int i ∧ vs = [] ∧ Q (.int ((Builtin.Int.intBits i : Nat) : Int)) H) := by
  intro pins s σ H x xs v us Q I rx rs h
  obtain ⟨i, rfl, rfl, q⟩ := h
  obtain ⟨t, rfl⟩ := rx
  cases rs
  exact call_gives PySem.F.slot_int_bit_length (typeIs_int _ _ _) PySem.F.entry_int_bit_length (PySem.F.args_int_bit_length_1 _) (AutoIntG2.int_bit_length_int_0 i t) ⟨.int _, H, I.tok _, ⟨_, rfl⟩, q⟩
theorem ip_or : PIp X .BitOr (rI0 fun i j => .int (Builtin.bitOr i j)) := fun pins s σ H x y v u Q I r1 r2 h => iop_or pins s σ H x y v u Q I r1 r2 h
end
end L2
set_option Elab.async false
set_option linter.all false
set_option maxRecDepth 100000
set_option maxHeartbeats 4000000
namespace L2
open PySem PySem.Spec PyProof.Rows
section
variable {X : Cx}
theorem vals_of_ints : ∀ {us : List Value} {ns : List Int}, IntsAre us ns → Vals (ns.map V.int) us
  | _, _, .nil => .nil
  | _, _, .cons _ _ h => .cons ⟨_, rfl⟩ (vals_of_ints h)
theorem op_eqT_nil (hu : X.A.units < cLine) : OpR X (compareOp .Eq) (fun x y H Q => ∃ a b xs, x = .ref a ∧ y = .ref b ∧ SqT X.K H a xs ∧ SqT X.K H b [] ∧ Q (.bl xs.isEmpty) H) := by
  intro pins s σ H x y v u Q I rx ry h
  obtain ⟨a, b, xs, rfl, rfl, ha, hb, q⟩ := h
  cases rx
  cases ry
  obtain ⟨its, r1, p1, _⟩ := I.tuple ha
  obtain ⟨its2, r2, p2, _⟩ := I.tuple hb
  cases r2
  refine SeqAt.eq_tupleAt (e := fun _ => true) (show s.heap.IsTuple a its.toArray from p1) (show s.heap.IsTuple b ([] : List Value).toArray from p2) hu (fun j h1 h2 => by simp at h2) ?_
  have e : ((List.range (min its.toArray.size ([] : List Value).toArray.size)).all (fun _ => true) && its.toArray.size == ([] : List Value).toArray.size) = xs.isEmpty := by
    have hl := r1.length
    cases xs with
    | nil => cases r1; rfl
    | cons a r => cases r1; simp
  rw [e]
  exact ⟨.bl _, H, I, rfl, q⟩
end
end L2
set_option Elab.async false
set_option linter.all false
set_option maxRecDepth 100000
set_option maxHeartbeats 4000000
namespace L2
open PySem PySem.Spec PyProof.Rows
section
variable {prog : Program} {w : World} {A : Around} {E : Value → Shared → Prop} {s : Shared}
theorem collect_tup {t : Addr} {o : Obj} {vs : List Value} {n : Nat} {Q : List Value → Shared → Prop} (ho : s.heap.get? t = some o) (hc : o.cls = .type "tuple") (hd : o.data = .seq vs.toArray n) (hz : vs.length ≤ sizeLine)
    (q : Q vs { s with heap := (s.heap.push (seqObj "list" #[] 0)).update s.heap.objs.size (Obj.mapSeq (· ++ vs.toArray)) }) : wpAny (model prog w) A (collect (.ref t)) Q E s := by
  unfold collect
  apply wpAny_bind
  apply wpAny_runValue
  apply codeAny_builtin entry_proto_collect'
  show wpAny _ _ (do again (.builtin "list.__iadd__" ⟨[← newList [], .ref t], []⟩)) _ _ s
  apply wpAny_bind
  refine wpAny_newList ?_ (by decide)
  refine wpAny_pure ⟨Code.quiet_builtin _ (by decide +kernel), ?_⟩
  apply codeAny_builtin entry_list_iadd'
  have ht : (s.heap.push (seqObj "list" #[] 0)).get? t = some o := Heap.get?_push_of_some _ ho
  have hn : (s.heap.push (seqObj "list" #[] 0)).get? s.heap.objs.size = some (seqObj "list" #[] 0) := Heap.get?_push_size _ rfl
  show wpAny _ _ (Builtin.List.listExtendWith (.ref s.heap.objs.size) (.ref t) (.ref s.heap.objs.size)) _ _ { s with heap := s.heap.push (seqObj "list" #[] 0) }
  unfold Builtin.List.listExtendWith
  apply wpAny_bind
  refine wpAny_typeOf (T := "tuple") ⟨o, ht, hc⟩ ?_
  rw [if_pos (by simp)]
  apply wpAny_bind
  refine listItems_at ht hd ?_
  apply wpAny_bind
  refine listItems_at (xs := #[]) (n := 0) hn rfl ?_
  rw [if_neg (by simp)]
  apply wpAny_bind
  refine listUpdate_at (xs := #[]) (n := 0) hn rfl ?_ (Nat.zero_le _) (by simp only [Array.size_append, List.size_toArray]; simp; omega)
  apply wpAny_pure
  refine wpAny_bind (wpAny_load (get?_update_seq (Heap.get?_push_size _ rfl) _) ?_)
  have e : ((#[] : Array Value) ++ vs.toArray).toList = vs := by simp
  show wpAny _ _ (pure ((#[] : Array Value) ++ vs.toArray).toList) Q E _
  rw [e]
  exact wpAny_pure q
theorem sorted_tup {t : Addr} {o : Obj} {vs : List Value} {n : Nat} {ns : List Int} {Q : Value → Shared → Prop} (ho : s.heap.get? t = some o) (hc : o.cls = .type "tuple") (hd : o.data = .seq vs.toArray n) (hi : IntsAre vs ns) (h64 : vs.length < 64)
    (q : ∀ (out : Array Value) (ns' : List Int), IntsAre out.toList ns' → ns'.Perm ns → ns'.Pairwise (· ≤ ·) → Q (.ref (s.heap.objs.size + 1)) { s with heap := sortedAll s.heap vs out }) :
    wpAny (model prog w) A (call (.builtin "sorted") [.ref t]) Q E s := by
  apply Calls.call_function_entry kind_sorted plain_sorted entry_sorted (args_sorted1 _)
  unfold Builtin.«sorted»
  apply wpAny_bind (m := checkCount "sorted" 1 1 _)
  apply wpAny_pure
  apply wpAny_bind
  refine collect_tup ho hc hd (by rw [sizeLine_eq]; omega) ?_
  apply wpAny_bind
  refine wpAny_newList ?_ (by rw [sizeLine_eq]; omega)
  generalize hh : (s.heap.push (seqObj "list" #[] 0)).update s.heap.objs.size (Obj.mapSeq (· ++ vs.toArray)) = h1
  have hsz : h1.objs.size = s.heap.objs.size + 1 := by rw [← hh, Heap.size_update, size_push']
  have hL : (h1.push (seqObj "list" vs.toArray 0)).get? (s.heap.objs.size + 1) = some (seqObj "list" vs.toArray 0) := by
    rw [← hsz]
    exact Heap.get?_push_size _ rfl
  show wpAny _ _ _ _ _ { s with heap := h1.push (seqObj "list" vs.toArray 0) }
  rw [hsz]
  apply wpAny_bind
  apply wpAny_holding
  refine wpAny_call_entry slot_list_sort ⟨_, hL, rfl⟩ entry_list_sort ?_ (args_list_sort _)
  refine list_sort_tree hL hi h64 fun out ns' a1 a2 a3 => ⟨_, rfl, ?_⟩
  have q1 := q out ns' a1 a2 a3
  unfold sortedAll at q1
  rw [hh] at q1
  exact wpAny_pure ⟨_, rfl, q1⟩
end
section
variable {X : Cx}
theorem call_sortedT : CallR X (.builtin "sorted") (fun xs H Q => ∃ (p : Addr) (ns : List Int), xs = [.ref p] ∧ SqT X.K H p (ns.map V.int) ∧ ns.length < 64 ∧ ns.Pairwise (· ≤ ·) ∧ ∀ l, H l = none → Q (.ref l) (upd H l (.lst (ns.map V.int)))) := by
  intro pins s σ H xs us Q I r h
  obtain ⟨p, ns, rfl, hq, h64, hs, q⟩ := h
  obtain ⟨u, rfl, rx⟩ := vals1 r
  cases rx
  obtain ⟨its, r', pl, hz⟩ := I.tuple hq
  have hi := intsAre_of r'
  have hlen := r'.length
  rw [List.length_map] at hlen
  obtain ⟨o, ho, hc, n, hd⟩ := pl
  refine sorted_tup ho hc hd hi (by omega) fun out ns' a1 a2 a3 => ?_
  have e : ns' = ns := PySem.W.ksm_same a2 a3 hs
  subst e
  obtain ⟨ep, he⟩ := sortedAll_at s.heap its out
  have hob : ObjOk X.prog X.w (upd H (s.heap.objs.size + 1) (.lst (ns'.map V.int))) (sortedAll s.heap its out) (s.heap.objs.size + 1) (.lst (ns'.map V.int)) := ⟨hz, out.toList, ep, vals_of_ints a1, by rw [he, Array.toArray_toList]⟩
  exact ⟨.ref (s.heap.objs.size + 1), _, I.laid (t' := s.toks) (fun b o hb => sortedAll_old hb) (Nat.le_succ _) hob, rfl, q _ (I.hok.fresh (Nat.le_succ _))⟩
end
end L2
set_option Elab.async false
set_option linter.all false
set_option maxRecDepth 100000
set_option maxHeartbeats 4000000
namespace L2
open PySem PySem.Spec PyProof.Rows
theorem extend_tup (l b : Addr) (items : Array Value) (n : Nat) (items2 : Array Value) (hlong : ¬ (!items.isEmpty && Builtin.List.listTooLong (items.size + items2.size)) = true) (h1 : items.size ≤ sizeLine) (h2 : items.size + items2.size ≤ sizeLine) :
    Meets (Builtin.«list.extend» ⟨[.ref l, .ref b], []⟩) (fun _ R s => s.heap.get? l = some { cls := .type "list", dict := none, data := .seq items n, slots := #[] } ∧ (∃ o n2, s.heap.get? b = some o ∧ o.cls = .type "tuple" ∧ o.data = .seq items2 n2) ∧
      R (.ok (.ret Value.none)) { s with heap := s.heap.update l (Obj.mapSeq fun x => x ++ items2) }) :=
  .of_wp fun prog w A R s h => by
    obtain ⟨hl, ⟨o, n2, ho, hc, hd⟩, q⟩ := h
    show wpAny _ _ (Builtin.List.listExtendWith (.ref l) (.ref b) .none) _ _ s
    unfold Builtin.List.listExtendWith
    apply wpAny_bind
    refine wpAny_typeOf (T := "tuple") ⟨o, ho, hc⟩ ?_
    rw [if_pos (by simp)]
    apply wpAny_bind
    refine listItems_at ho hd ?_
    apply wpAny_bind
    refine listItems_at hl rfl ?_
    rw [if_neg hlong]
    apply wpAny_bind
    refine listUpdate_at hl rfl ?_ h1 (by rw [Array.size_append]; omega)
    exact wpAny_pure ⟨_, rfl, q⟩
section
variable {X : Cx}
def rExtendT (K : PySem.W.Frag) : V → List V → Hp → VK → Prop := fun x vs H Q => ∃ l b xs zs, x = .ref l ∧ vs = [.ref b] ∧ H l = some (.lst xs) ∧ SqT K H b zs ∧ xs.length + zs.length ≤ sizeLine ∧ Q .non (upd H l (.lst (xs ++ zs)))
theorem mt_extendT : MtM X "list.extend" (rExtendT X.K) := by
  intro pins s σ H x vs v us Q I rx rv h
  obtain ⟨l, b, xs, zs, rfl, rfl, hH, hB, hz, q⟩ := h
  cases rx
  obtain ⟨u, rfl, ru⟩ := rv.one
  cases ru
  obtain ⟨z, its, n, r, hl, e⟩ := I.lstM hH
  obtain ⟨its2, r2, ⟨o, ho, hc, n2, hd⟩, z2⟩ := I.tuple hB
  have l1 := r.length
  have l2 := r2.length
  have hsz : its.toArray.size + its2.toArray.size ≤ sizeLine := by rw [List.size_toArray, List.size_toArray]; omega
  have hlong : ¬ (!its.toArray.isEmpty && Builtin.List.listTooLong (its.toArray.size + its2.toArray.size)) = true := by
    rw [notLongL hsz, Bool.and_false]
    exact Bool.false_ne_true
  refine call_meets PySem.F.slot_list_extend ⟨_, e, rfl⟩ PySem.F.entry_list_extend (PySem.F.args_list_extend_2 _ _) (extend_tup l b its.toArray n its2.toArray hlong (by rw [List.size_toArray]; omega) hsz) ⟨e, ⟨o, n2, ho, hc, hd⟩, ?_⟩
  refine ⟨.non, _, I.lset (its' := its ++ its2) hH e (by simp) (r.append r2) ?_, rfl, q⟩
  rw [List.length_append]
  omega
end
end L2
set_option Elab.async false
set_option linter.all false
set_option maxRecDepth 100000
set_option maxHeartbeats 4000000
namespace L2
open PySem PySem.Spec PyProof.Rows
end L2
set_option Elab.async false
set_option linter.all false
set_option maxRecDepth 100000
set_option maxHeartbeats 4000000
namespace L2
open PySem PySem.Spec PyProof.Rows
section
variable {κ : Type} [DecidableEq κ]
end
abbrev KT (H : Hp) : List (List Key × V) → List (List Key × Addr × Value) → Prop := Paired fun p q => p.1 = q.1 ∧ H q.2.1 = some (.tup (p.1.map kV)) ∧ RelV p.2 q.2.2
section
variable {P : Program} {w : World} {H : Hp} {h : Heap} {a : Addr}
end
section
variable {X : Cx} {pins : List (Addr × Obj)} {σ : St} {H : Hp} {s : Shared} {a : Addr} {y v : V} {u r : Value} {o : Option V} {A : Around} {E : Value → Shared → Prop}
end
section
variable {X : Cx} {pins : List (Addr × Obj)} {σ : St} {H : Hp} {s : Shared} {a : Addr} {kvs : List (Key × V)} {k : Key} {u : Value} {A : Around} {E : Value → Shared → Prop}
end
section
variable {X : Cx} {o i e value : Expr} {pos pos' tpos : Pos} {td ty tv : TE}
end
section
variable {X : Cx} {pos : Pos}
end
abbrev VV : List (V × V) → List (Value × Value) → Prop := Paired fun p q => RelV p.1 q.1 ∧ RelV p.2 q.2
section
variable {X : Cx} {pins : List (Addr × Obj)} {σ : St} {H : Hp} {s : Shared} {a : Addr} {y d : V} {u r : Value} {o : Option V} {A : Around} {E : Value → Shared → Prop}
end
section
variable {X : Cx} {o e f : Expr} {apos cpos : Pos} {td ty tx : TE}
end
section
variable {X : Cx} {pins : List (Addr × Obj)} {σ : St} {H : Hp} {s : Shared} {a : Addr} {kvs : List (Key × V)} {A : Around} {E : Value → Shared → Prop}
end
section
variable {X : Cx} {pins : List (Addr × Obj)} {σ : St} {H : Hp} {s : Shared} {a : Addr} {y : V} {u : Value} {A : Around} {E : Value → Shared → Prop}
end
end L2
namespace L2
open PySem PySem.Spec PyProof.Rows
section
variable {X : Cx}
end
section
variable {κ : Type} [DecidableEq κ]
end
end L2
set_option Elab.async false
set_option linter.all false
set_option maxRecDepth 100000
set_option maxHeartbeats 4000000
namespace L2
open PySem PySem.Spec PyProof.Rows
section
variable {X : Cx}
end
end L2
set_option Elab.async false
set_option linter.all false
set_option maxRecDepth 100000
set_option maxHeartbeats 4000000
namespace L2
open PySem PySem.Spec PyProof.Rows PySem.W
section
variable {prog : Program} {w : World} {A : Around} {E : Value → Shared → Prop} {s : Shared} {T : String} {r d : Addr} {n : Nat} {P : Nat → Value → Prop} {OK : Heap → Prop}
end
section
variable {X : Cx}
end
end L2
set_option Elab.async false
set_option linter.all false
set_option maxRecDepth 100000
set_option maxHeartbeats 4000000
namespace RV
open PySem PySem.Spec PyProof.Rows
end RV
set_option Elab.async false
set_option linter.all false
set_option maxRecDepth 100000
set_option maxHeartbeats 4000000
namespace RV
open PySem PySem.Spec PyProof.Rows
section
variable {prog : Program} {w : World} {A : Around} {E : Value → Shared → Prop} {s : Shared}
end
end RV
set_option Elab.async false
set_option linter.all false
set_option maxRecDepth 100000
set_option maxHeartbeats 4000000
namespace RV
open PySem PySem.Spec PyProof.Rows
section
variable {prog : Program} {w : World} {A : Around} {E : Value → Shared → Prop} {s : Shared}
end
end RV
set_option Elab.async false
set_option linter.all false
set_option maxRecDepth 100000
set_option maxHeartbeats 4000000
namespace RV
open PySem PySem.Spec PyProof.Rows
section
variable {prog : Program} {w : World} {A : Around} {E : Value → Shared → Prop} {s : Shared}
end
end RV
set_option Elab.async false
set_option linter.all false
set_option maxRecDepth 100000
set_option maxHeartbeats 4000000
namespace L2
open PySem PySem.Spec PyProof.Rows PySem.W RV
theorem vals_by : ∀ {xs : List V} {us : List Value}, us.length = xs.length → (∀ (j : Nat) (u : Value), us[j]? = some u → ∃ x, xs[j]? = some x ∧ RelV x u) → Vals xs us
  | [], [], _, _ => .nil
  | [], _ :: _, h, _ => by simp at h
  | _ :: _, [], h, _ => by simp at h
  | x :: xs, u :: us, h, k => by
    obtain ⟨y, e, r⟩ := k 0 u rfl
    have e' : x = y := by simpa using e
    subst e'
    exact .cons r (vals_by (by simpa using h) fun j v hj => by simpa using k (j + 1) v (by simpa using hj))
section
variable {X : Cx} {e : Expr} {te : TE} {pos pos2 p p2 : Pos}
end
end L2
set_option Elab.async false
set_option linter.all false
set_option maxRecDepth 100000
set_option maxHeartbeats 4000000
namespace L2
open PySem PySem.Spec PyProof.Rows
end L2
set_option Elab.async false
set_option linter.all false
set_option maxRecDepth 100000
set_option maxHeartbeats 4000000
namespace L2
open PySem PySem.Spec PyProof.Rows
section
variable {X : Cx}
end
end L2
set_option Elab.async false
set_option linter.all false
set_option maxRecDepth 100000
set_option maxHeartbeats 4000000
namespace L2
open PySem PySem.Spec PyProof.Rows
section
variable {X : Cx}
end
end L2
set_option Elab.async false
set_option linter.all false
set_option maxRecDepth 100000
set_option maxHeartbeats 4000000
namespace L2
open PySem PySem.Spec PyProof.Rows
section
variable {X : Cx} {elts : List Expr} {k : Nat} {tpos : Pos}
end
end L2
set_option Elab.async false
set_option linter.all false
set_option maxRecDepth 100000
set_option maxHeartbeats 4000000
namespace L2
open PySem PySem.Spec PyProof.Rows
section
variable {P : Program} {w : World} {A : Around} {E : Value → Shared → Prop} {s : Shared} {z TI TO i1 i2 l1 l2 : Addr} {xs ys : Array Value} {I1 I2 : Nat → Heap → Prop} {S1 S2 : Heap → Prop}
end
section
variable {X : Cx} {elts : List Expr} {k : Nat} {tpos : Pos}
end
end L2
set_option Elab.async false
set_option linter.all false
set_option maxRecDepth 100000
set_option maxHeartbeats 4000000
namespace L2
open PySem PySem.Spec PyProof.Rows PySem.W
section
variable {P : Program} {w : World} {A : Around} {E : Value → Shared → Prop} {s : Shared} {d : Addr} {es : Array DictEntry} {ep : Nat}
end
section
variable {X : Cx}
end
end L2
set_option Elab.async false
set_option linter.all false
set_option maxRecDepth 100000
set_option maxHeartbeats 4000000
namespace L2
open PySem PySem.Spec PyProof.Rows
section
variable {X : Cx}
theorem op_neL_same (hu : X.A.units < cLine) : OpR X (compareOp .NotEq) (fun x y H Q => ∃ a b xs, x = .ref a ∧ y = .ref b ∧ SqL X.K H a xs ∧ SqL X.K H b xs ∧ xs.all flatV = true ∧ Q (.bl false) H) := by
  intro pins s σ H x y v u Q I rx ry h
  obtain ⟨a, b, xs, rfl, rfl, ha, hb, hf, q⟩ := h
  cases rx
  cases ry
  obtain ⟨its, r1, p1, _⟩ := I.list ha
  obtain ⟨its2, r2, p2, _⟩ := I.list hb
  have l1 := r1.length
  have l2 := r2.length
  refine SeqAt.RcNeAt.lists (e := fun _ => true) p1.isList p2.isList (by simp; omega) hu (same_items r1 r2 hf) X.prog X.w _ _ ?_
  rw [show (!((List.range its.toArray.size).all (fun _ => true))) = false by simp]
  exact ⟨.bl false, H, I, rfl, q⟩
end
end L2
set_option Elab.async false
set_option linter.all false
set_option maxRecDepth 100000
set_option maxHeartbeats 4000000
namespace RG
open PySem PySem.Spec PyProof.Rows
section
variable {prog : Program} {w : World} {A : Around} {E : Value → Shared → Prop} {s : Shared}
variable {I : Addr} {fp : List Addr} {n : Nat} {P : Nat → Value → Prop} {St : Nat → Heap → Prop} {T : String}
end
end RG
set_option Elab.async false
set_option linter.all false
set_option maxRecDepth 100000
set_option maxHeartbeats 4000000
namespace RG
open PySem PySem.Spec PyProof.Rows
section
variable {prog : Program} {w : World} {A : Around} {E : Value → Shared → Prop} {s : Shared}
end
end RG
namespace L2
open PySem PySem.Spec PyProof.Rows PySem.W RG
def rngV (n : Nat) : List V := (List.range n).map fun i => V.int ((i : Nat) : Int)
theorem rngV_at {n i : Nat} (h : i < n) : (rngV n)[i]? = some (.int (i : Int)) := by
  unfold rngV
  rw [List.getElem?_map, List.getElem?_range h]
  rfl
theorem rngV_len (n : Nat) : (rngV n).length = n := by unfold rngV; rw [List.length_map, List.length_range]
section
variable {X : Cx} {e : Expr} {te : TE} {pos pos2 pos3 p p2 p3 : Pos}
theorem ev_range (he : PE X e te) (gG : Gl X "range") (mG : X.mg "range" = none) (hs : starEach [e] X.env = [(false, eval e X.env)] := by rfl)
    {pins : List (Addr × Obj)} {s : Shared} {σ : St} {H : Hp} {R : VK} {Q : Value → Shared → Prop} (I : Inv X pins σ H s) (h : te σ H R) (kr : ∀ x H1, R x H1 → ∃ m : Int, x = .int m)
    (k : ∀ m H1 s1 t u v tk, Inv X pins σ H1 s1 → R (.int m) H1 → Q (.ref s1.heap.objs.size) { s1 with heap := s1.heap.push { cls := .type "range", data := .fields #[.int 0 t, .int m u, .int 1 v] }, toks := tk }) :
    wpAny (model X.prog X.w) X.A (eval (.Call (.Name "range" p3) [e] [] pos3) X.env) Q X.xe s := by
  refine wpAny_Call_Name_kw (ld_blt I gG mG boot_range ?_ (by decide) (by decide))
  refine PyProof.Rows.callWith_type1 ?_ hs (by rfl)
  rw [hs]
  refine Calls.spliced_cons (thn (he pins s σ H _ I h) fun u s1 ⟨x, H1, I1, r1, q1⟩ => ?_)
  obtain ⟨m, rfl⟩ := kr x H1 q1
  obtain ⟨t, rfl⟩ := r1
  exact Calls.spliced_nil (call_range_1 (k m H1 s1 _ _ _ _ I1 q1))
def tLRng (te : TE) : TE := fun σ H Q => te σ H fun x H1 => ∃ n : Nat, x = .int (n : Int) ∧ n ≤ 1000 ∧ ∀ l, H1 l = none → Q (.ref l) (upd H1 l (.lst (rngV n)))
theorem pe_lrng (hc : X.calm = true) (he : PE X e te) (gL : Gl X "list") (mL : X.mg "list" = none) (gG : Gl X "range") (mG : X.mg "range" = none) (hs : starEach [e] X.env = [(false, eval e X.env)] := by rfl) (hs2 : starEach [.Call (.Name "range" p3) [e] [] pos3] X.env = [(false, eval (.Call (.Name "range" p3) [e] [] pos3) X.env)] := by rfl) :
    PE X (.Call (.Name "list" p) [.Call (.Name "range" p3) [e] [] pos3] [] pos) (tLRng te) := by
  intro pins s σ H Q I h
  refine wpAny_Call_Name_kw (ld_blt I gL mL boot_list ?_ (by decide) (by decide))
  refine PyProof.Rows.callWith_type1 ?_ hs2 (by rfl)
  rw [hs2]
  refine Calls.spliced_cons (ev_range he gG mG hs I h (fun x H1 q => by obtain ⟨n, e1, _⟩ := q; exact ⟨_, e1⟩) fun m H1 s1 t u v tk I1 q1 => ?_)
  obtain ⟨n, e1, hn, q⟩ := q1
  have em : m = (n : Int) := V.int.inj e1
  subst em
  refine Calls.spliced_nil ?_
  have hsl : sizeLine = 16777216 := sizeLine_eq
  have hsz : Builtin.Range.rangeSize 0 (n : Int) 1 = (n : Int) := by
    unfold Builtin.Range.rangeSize
    rw [if_pos (by decide)]
    split <;> omega
  have hp : s1.heap.objs.size ≤ (s1.heap.push { cls := .type "range", data := .fields #[.int 0 t, .int (n : Int) u, .int 1 v] }).objs.size := by rw [Heap.size_push]; omega
  refine call_list_range (s := { s1 with heap := s1.heap.push { cls := .type "range", data := .fields #[.int 0 t, .int (n : Int) u, .int 1 v] }, toks := tk }) (I1.ok.hd hc) (Heap.get?_push_size _ rfl) (small_one (by omega) (by omega) (by omega) (by omega)) hsz (by omega) fun h' tk' acc c keep hS hacc => ?_
  have hk : ∀ b w, s1.heap.get? b = some w → h'.get? b = some w := fun b w e => keep b w (Heap.get?_push_of_some _ e)
  have hv : Vals (rngV n) acc.toList := vals_by (by rw [Array.length_toList, hacc.1, rngV_len]) fun j w e => by
    have hj : j < n := by
      rw [← hacc.1, ← Array.length_toList]
      exact (List.getElem?_eq_some_iff.mp e).1
    obtain ⟨t', rfl⟩ := hacc.2 j w (by rw [← Array.getElem?_toList]; exact e)
    refine ⟨_, rngV_at hj, t', ?_⟩
    congr 1
    omega
  exact ⟨.ref _, _, I1.laid (t' := tk') hk hp (show ObjOk X.prog X.w _ h' _ (.lst (rngV n)) from ⟨by rw [rngV_len]; omega, acc.toList, c, hv, by simpa using hS⟩), rfl, q _ (I1.hok.fresh hp)⟩
end
end L2
set_option Elab.async false
set_option linter.all false
set_option maxRecDepth 100000
set_option maxHeartbeats 4000000
namespace L2
open PySem PySem.Spec PyProof.Rows PySem.W RG
open AutoSeq1 (wpAny_loadPart')
section
variable {prog : Program} {w : World} {A : Around} {E : Value → Shared → Prop} {s : Shared}
end
section
variable {X : Cx} {e : Expr} {te : TE} {pos pos3 p p3 : Pos}
end
end L2
set_option Elab.async false
set_option linter.all false
set_option maxRecDepth 100000
set_option maxHeartbeats 4000000
namespace L2
open PySem PySem.Spec PyProof.Rows PySem.W
section
variable {X : Cx} {e : Expr} {te : TE} {pos pos3 p p3 : Pos}
end
end L2
set_option Elab.async false
set_option linter.all false
set_option maxRecDepth 100000
set_option maxHeartbeats 4000000
namespace L2
open PySem PySem.Spec PyProof.Rows PySem.W
section
variable {prog : Program} {w : World} {A : Around} {R : Result → Shared → Prop} {it best : Addr} {fp wr : List Addr} {n : Nat} {P : Nat → Value → Prop} {St : Nat → Heap → Prop}
def KeptBut (wr : List Addr) (best : Addr) (h h' : Heap) : Prop := ∀ b o, b ∉ wr → b ≠ best → h.get? b = some o → h'.get? b = some o
theorem KeptBut.trans {wr : List Addr} {best : Addr} {h1 h2 h3 : Heap} (a : KeptBut wr best h1 h2) (b : KeptBut wr best h2 h3) : KeptBut wr best h1 h3 := fun x o m1 m2 e => b x o m1 m2 (a x o m1 m2 e)
structure MinW (prog : Program) (w : World) (A : Around) (it best : Addr) (fp wr : List Addr) (n : Nat) (P : Nat → Value → Prop) (St : Nat → Heap → Prop) (G : Heap → Prop) (lt : Nat → Nat → Bool) : Prop where
  wk : Walks prog w A it fp wr n P St
  out : best ∉ fp
  keep : ∀ h h', KeptBut wr best h h' → G h → G h'
  cmp : ∀ i j x y (s : Shared) (Q E : Value → Shared → Prop), G s.heap → P i x → P j y → Q (.bool (lt i j)) s → wpAny (model prog w) A (richCompare .Lt x y) Q E s
def bestObj (vs : Array Value) (c : Nat) : Obj := { cls := .type "list", dict := none, data := .seq vs c, slots := #[] }
theorem name_min : (toString "min" ++ toString ".loop" : String) = "min.loop" := by decide
theorem min_rest {G : Heap → Prop} {lt : Nat → Nat → Bool} (M : MinW prog w A.in1 it best fp wr n P St G lt) : ∀ (m j c : Nat) (v : Value) (s : Shared), j + 1 + m = n → G s.heap → St (j + 1) s.heap → P (argBest lt j) v → s.heap.get? best = some (bestObj #[v, v] c) →
    (∀ u h' tk, P (argBest lt (n - 1)) u → KeptBut wr best s.heap h' → R (.ok (.ret u)) { s with heap := h', toks := tk }) → codeAny (model prog w) A (.builtin "min.loop" ⟨[.ref it, .none, .ref best], []⟩) R s
  | 0, j, c, v, s, hm, hG, hst, hv, hb, q => by
    have hbw : best ∉ wr := fun z => M.out (M.wk.sub _ z)
    refine codeAny_builtin PySem.F.entry_min_loop ?_
    rw [Around.under_plainId PySem.F.plain_min_loop _]
    show wpAny _ A.in1 (seqItems? (.ref best) >>= _) _ _ s
    refine wpAny_bind (wpAny_seqItems hb rfl ?_)
    show wpAny _ A.in1 (tryCatch (pyNext (.ref it)) _ >>= _) _ _ s
    have en : j + 1 = n := by omega
    refine wpAny_bind (wpAny_tryCatch (M.wk.done s _ _ (by rw [← en]; exact hst) fun h1 tk k1 => ?_))
    show wpAny _ A.in1 (updateSeq best (fun _ => #[]) >>= _) _ _ _
    refine wpAny_bind (wpAny_updateSeq (k1 best _ hbw hb) rfl (wpAny_bind (wpAny_letGo (wpAny_pure ?_))))
    refine q v _ tk (by rw [← en]; exact hv) fun b o m1 m2 e => ?_
    exact (Heap.get?_update_other _ _ (Ne.symm m2)).trans (k1 b o m1 e)
  | m + 1, j, c, v, s, hm, hG, hst, hv, hb, q => by
    have hbw : best ∉ wr := fun z => M.out (M.wk.sub _ z)
    refine codeAny_builtin PySem.F.entry_min_loop ?_
    rw [Around.under_plainId PySem.F.plain_min_loop _]
    show wpAny _ A.in1 (seqItems? (.ref best) >>= _) _ _ s
    refine wpAny_bind (wpAny_seqItems hb rfl ?_)
    show wpAny _ A.in1 (tryCatch (pyNext (.ref it)) _ >>= _) _ _ s
    refine wpAny_bind (wpAny_tryCatch (M.wk.item (j + 1) s _ _ (by omega) hst fun x h1 tk hx st1 k1 => ?_))
    have kb1 : KeptBut wr best s.heap h1 := fun b o m1 _ e => k1 b o m1 e
    have hb1 := k1 best _ hbw hb
    have hG1 := M.keep _ _ kb1 hG
    show wpAny _ A.in1 (tryCatch (holding [x, x] (richCompare .Lt x v >>= _)) _ >>= _) _ _ _
    refine wpAny_bind (wpAny_tryCatch (wpAny_holding (wpAny_bind (M.cmp (j + 1) (argBest lt j) x v _ _ _ hG1 hx hv ?_))))
    refine wpAny_bind (wpAny_holding (wpAny_truthy_bool ?_))
    refine wpAny_bind (wpAny_letGo (wpAny_pure ?_))
    by_cases hl : lt (j + 1) (argBest lt j) = true
    · rw [hl]
      simp only [if_true]
      refine wpAny_bind (wpAny_updateSeq hb1 rfl (wpAny_bind (wpAny_letGo ?_)))
      rw [name_min]
      have k2 : KeptBut wr best h1 (h1.update best fun _ => bestObj #[x, x] (c + 1)) := fun b o m1 m2 e => (Heap.get?_update_other _ _ (Ne.symm m2)).trans e
      refine wpAny_pure ⟨plainId_quiet PySem.F.plain_min_loop _, min_rest M m (j + 1) _ x _ (by omega) (M.keep _ _ ?_ hG1) (M.wk.frame _ _ _ st1 fun b hf o e => ?_) ?_ (Heap.get?_update_self _ hb1 rfl) fun u h2 tk2 hu k3 => ?_⟩
      · exact fun b o m1 m2 e => (Heap.get?_update_other _ _ (Ne.symm m2)).trans e
      · exact (Heap.get?_update_other _ _ (fun z : best = b => M.out (by rw [z]; exact hf))).trans e
      · show P (if lt (j + 1) (argBest lt j) then j + 1 else argBest lt j) x
        rw [hl]
        exact hx
      · exact q u h2 tk2 hu fun b o m1 m2 e => k3 b o m1 m2 ((Heap.get?_update_other _ _ (Ne.symm m2)).trans (kb1 b o m1 m2 e))
    · have hl' : lt (j + 1) (argBest lt j) = false := Bool.not_eq_true _ ▸ hl
      rw [hl']
      simp only [Bool.false_eq_true, if_false]
      refine wpAny_bind (wpAny_letGo ?_)
      rw [name_min]
      refine wpAny_pure ⟨plainId_quiet PySem.F.plain_min_loop _, min_rest M m (j + 1) c v _ (by omega) hG1 st1 ?_ hb1 fun u h2 tk2 hu k3 => q u h2 tk2 hu (kb1.trans k3)⟩
      show P (if lt (j + 1) (argBest lt j) then j + 1 else argBest lt j) v
      rw [hl']
      exact hv
theorem min_first {G : Heap → Prop} {lt : Nat → Nat → Bool} (M : MinW prog w A.in1 it best fp wr n P St G lt) (hn : 0 < n) {c : Nat} {s : Shared} (hG : G s.heap) (hst : St 0 s.heap) (hb : s.heap.get? best = some (bestObj #[] c))
    (q : ∀ u h' tk, P (argBest lt (n - 1)) u → KeptBut wr best s.heap h' → R (.ok (.ret u)) { s with heap := h', toks := tk }) : codeAny (model prog w) A (.builtin "min.loop" ⟨[.ref it, .none, .ref best], []⟩) R s := by
  have hbw : best ∉ wr := fun z => M.out (M.wk.sub _ z)
  refine codeAny_builtin PySem.F.entry_min_loop ?_
  rw [Around.under_plainId PySem.F.plain_min_loop _]
  show wpAny _ A.in1 (seqItems? (.ref best) >>= _) _ _ s
  refine wpAny_bind (wpAny_seqItems hb rfl ?_)
  show wpAny _ A.in1 (tryCatch (pyNext (.ref it)) _ >>= _) _ _ s
  refine wpAny_bind (wpAny_tryCatch (M.wk.item 0 s _ _ hn hst fun x h1 tk hx st1 k1 => ?_))
  have kb1 : KeptBut wr best s.heap h1 := fun b o m1 _ e => k1 b o m1 e
  have hb1 := k1 best _ hbw hb
  show wpAny _ A.in1 (updateSeq best (fun _ => #[x, x]) >>= _) _ _ _
  refine wpAny_bind (wpAny_updateSeq hb1 rfl ?_)
  rw [name_min]
  refine wpAny_pure ⟨plainId_quiet PySem.F.plain_min_loop _, min_rest M (n - 1) 0 _ x _ (by omega) (M.keep _ _ ?_ (M.keep _ _ kb1 hG)) (M.wk.frame _ _ _ st1 fun b hf o e => ?_) hx (Heap.get?_update_self _ hb1 rfl) fun u h2 tk2 hu k3 => ?_⟩
  · exact fun b o m1 m2 e => (Heap.get?_update_other _ _ (Ne.symm m2)).trans e
  · exact (Heap.get?_update_other _ _ (fun z : best = b => M.out (by rw [z]; exact hf))).trans e
  · exact q u h2 tk2 hu fun b o m1 m2 e => k3 b o m1 m2 ((Heap.get?_update_other _ _ (Ne.symm m2)).trans (kb1 b o m1 m2 e))
end
section
variable {X : Cx}
def PrI2 (K : PySem.W.Frag) (H : Hp) (v : V) (n : Int × Int) : Prop := ∃ t, v = .ref t ∧ SqT K H t [.int n.1, .int n.2]
def prI2 (ns : List (Int × Int)) (i j : Nat) : Bool := HT.lexLt [(ns.getD i (0, 0)).1, (ns.getD i (0, 0)).2] [(ns.getD j (0, 0)).1, (ns.getD j (0, 0)).2]
theorem prI2_t {ns : List (Int × Int)} {i j : Nat} (h : prI2 ns i j = true) : (ns.getD i (0, 0)).1 ≤ (ns.getD j (0, 0)).1 := by
  unfold prI2 at h
  rw [HT.lexLt_cons] at h
  split at h
  · omega
  · exact Int.le_of_lt (of_decide_eq_true h)
theorem prI2_f {ns : List (Int × Int)} {i j : Nat} (h : prI2 ns i j = false) : (ns.getD j (0, 0)).1 ≤ (ns.getD i (0, 0)).1 := by
  unfold prI2 at h
  rw [HT.lexLt_cons] at h
  split at h
  · omega
  · exact Int.not_lt.mp (of_decide_eq_false h)
theorem best_le (ns : List (Int × Int)) : ∀ k, argBest (prI2 ns) k ≤ k ∧ ∀ i, i ≤ k → (ns.getD (argBest (prI2 ns) k) (0, 0)).1 ≤ (ns.getD i (0, 0)).1
  | 0 => ⟨Nat.le_refl _, fun i hi => by rw [Nat.le_zero.mp hi]; exact Int.le_refl _⟩
  | k + 1 => by
    obtain ⟨h1, h2⟩ := best_le ns k
    cases hl : prI2 ns (k + 1) (argBest (prI2 ns) k) with
    | true =>
      have e : argBest (prI2 ns) (k + 1) = k + 1 := by simp only [argBest, hl, if_true]
      rw [e]
      refine ⟨Nat.le_refl _, fun i hi => ?_⟩
      have h3 := prI2_t hl
      by_cases z : i = k + 1
      · rw [z]; exact Int.le_refl _
      · exact Int.le_trans h3 (h2 i (by omega))
    | false =>
      have e : argBest (prI2 ns) (k + 1) = argBest (prI2 ns) k := by simp only [argBest, hl, Bool.false_eq_true, if_false]
      rw [e]
      refine ⟨by omega, fun i hi => ?_⟩
      by_cases z : i = k + 1
      · rw [z]; exact prI2_f hl
      · exact h2 i (by omega)
theorem call_minP (hc : X.calm = true) (hu : X.A.units + 1 < cLine) : CallR X (.builtin "min") (fun xs H Q => ∃ (p : Addr) (vs : List V) (ns : List (Int × Int)), xs = [.ref p] ∧ SqL X.K H p vs ∧ Paired (PrI2 X.K H) vs ns ∧ ns ≠ [] ∧
    ∀ (i : Nat) (v : V) (n : Int × Int), vs[i]? = some v → ns[i]? = some n → (∀ m ∈ ns, n.1 ≤ m.1) → Q v H) := by
  intro pins s σ H xs us Q I r h
  obtain ⟨p, vs, ns, rfl, hq, hps, hne, q⟩ := h
  obtain ⟨u, rfl, rx⟩ := vals1 r
  cases rx
  obtain ⟨its, r', pl, hz⟩ := I.list hq
  have hl := pl.isList
  have hlt : p < s.heap.objs.size := by
    obtain ⟨_, e, _⟩ := hl
    exact Heap.lt_size e
  have hln : vs.length = ns.length := Paired.length hps
  have hlv : its.length = vs.length := r'.length.symm
  have hn0 : 0 < ns.length := List.length_pos_iff.mpr hne
  have hg : ∀ (i : Nat) (v : Value), its.toArray[i]? = some v → ∃ x n, vs[i]? = some x ∧ ns[i]? = some n ∧ RelV x v ∧ PrI2 X.K H x n := fun i v e => by
    have e' : its[(i : Nat)]? = some v := by rw [← e]; simp
    obtain ⟨x, hx, rv⟩ := Paired.get?' r' e'
    obtain ⟨n, hn, hp⟩ := Paired.get? hps hx
    exact ⟨x, n, hx, hn, rv, hp⟩
  refine call_function_tree PySem.F.kind_min PySem.F.plain_min PySem.F.entry_min (PySem.F.args_min1 _) ?_
  show wpAny _ X.A.in1 (Builtin.Builtins.bindParams "min" ["key", "default"] 0 ⟨[], []⟩ >>= _) _ _ s
  refine wpAny_bind (wpAny_of_eq (show Builtin.Builtins.bindParams "min" ["key", "default"] 0 ⟨[], []⟩ = pure [none, none] from rfl) ?_)
  refine wpAny_bind (wpAny_pure (wpAny_bind (wpAny_pyIter_list hl ?_)))
  refine wpAny_bind (wpAny_newObj_type ?_)
  rw [name_min]
  have hh : X.A.in1.handled = none := by simp [I.ok.hd hc]
  have hne1 : p ≠ s.heap.objs.size := Nat.ne_of_lt hlt
  refine wpAny_pure ⟨plainId_quiet PySem.F.plain_min_loop _, min_first (c := 0) (G := fun h => ∀ b o, s.heap.get? b = some o → h.get? b = some o) (lt := prI2 ns)
    ⟨Walks.list hh s.heap.objs.size p hne1 its.toArray, ?_, ?_, ?_⟩ (by rw [List.size_toArray]; omega) (fun b o e => Heap.get?_push_of_some _ (Heap.get?_push_of_some _ e)) ⟨⟨_, Heap.get?_push_of_some _ (Heap.get?_push_size _ rfl), rfl, rfl⟩, (hl.push _).push _⟩ (Heap.get?_push_size _ rfl) fun u h' tk hu' k => ?_⟩
  · rw [Heap.size_push]
    simp only [List.mem_cons, List.mem_singleton, List.not_mem_nil, or_false, not_or]
    exact ⟨Nat.ne_of_gt (Nat.lt_succ_self _), Nat.ne_of_gt (Nat.lt_succ_of_lt hlt)⟩
  · intro h h' k hG b o e
    have hb := Heap.lt_size e
    refine k b o ?_ ?_ (hG b o e)
    · rw [List.mem_singleton]; exact Nat.ne_of_lt hb
    · rw [Heap.size_push]; exact Nat.ne_of_lt (Nat.lt_succ_of_lt hb)
  · intro i j x y s' Q' E' hG hx hy q'
    obtain ⟨x1, n1, hx1, hn1, rx1, t1, rfl, st1⟩ := hg i x hx
    obtain ⟨x2, n2, hx2, hn2, rx2, t2, rfl, st2⟩ := hg j y hy
    cases rx1
    cases rx2
    obtain ⟨its1, r1, p1, _⟩ := I.tuple st1
    obtain ⟨its2, r2, p2, _⟩ := I.tuple st2
    have i1 : IntsAre its1.toArray.toList [n1.1, n1.2] := intsAre_of (ns := [n1.1, n1.2]) r1
    have i2 : IntsAre its2.toArray.toList [n2.1, n2.2] := intsAre_of (ns := [n2.1, n2.2]) r2
    have q1 : IsTup s'.heap t1 its1.toArray := by
      obtain ⟨o, e, rest⟩ := p1
      exact ⟨o, hG _ _ e, rest⟩
    have q2 : IsTup s'.heap t2 its2.toArray := by
      obtain ⟨o, e, rest⟩ := p2
      exact ⟨o, hG _ _ e, rest⟩
    have el : prI2 ns i j = HT.lexLt [n1.1, n1.2] [n2.1, n2.2] := by
      unfold prI2
      rw [List.getD_eq_getElem?_getD, List.getD_eq_getElem?_getD, hn1, hn2]
      rfl
    rw [el] at q'
    exact HT.lt_tupInts q1 q2 i1 i2 (by show X.A.in1.units < cLine; simpa using hu) q'
  · obtain ⟨x, n, hx, hn, rx, _⟩ := hg _ u hu'
    have hk : ∀ b o, s.heap.get? b = some o → h'.get? b = some o := fun b o e => by
      have hb := Heap.lt_size e
      refine k b o ?_ ?_ (Heap.get?_push_of_some _ (Heap.get?_push_of_some _ e))
      · rw [List.mem_singleton]; exact Nat.ne_of_lt hb
      · rw [Heap.size_push]; exact Nat.ne_of_lt (Nat.lt_succ_of_lt hb)
    refine ⟨x, H, I.kept hk, rx, q _ x n hx hn fun m hm => ?_⟩
    obtain ⟨i, hi⟩ := List.getElem?_of_mem hm
    have hil := (List.getElem?_eq_some_iff.mp hi).1
    have h1 := (best_le ns (its.toArray.size - 1)).2 i (by rw [List.size_toArray]; omega)
    rw [List.getD_eq_getElem?_getD, List.getD_eq_getElem?_getD, hn, hi] at h1
    exact h1
end
end L2
set_option Elab.async false
set_option linter.all false
set_option maxRecDepth 100000
set_option maxHeartbeats 4000000
namespace L2
open PySem PySem.Spec PyProof.Rows
section
variable {X : Cx}
theorem call_sortedP : CallR X (.builtin "sorted") (fun xs H Q => ∃ (p : Addr) (ns ms : List Int), xs = [.ref p] ∧ SqL X.K H p (ns.map V.int) ∧ ns.length < 64 ∧ ns.Perm ms ∧ ms.Pairwise (· ≤ ·) ∧ ∀ l, H l = none → Q (.ref l) (upd H l (.lst (ms.map V.int)))) := by
  intro pins s σ H xs us Q I r h
  obtain ⟨p, ns, ms, rfl, hq, h64, hp, hs, q⟩ := h
  obtain ⟨u, rfl, rx⟩ := vals1 r
  cases rx
  obtain ⟨its, r', pl, hz⟩ := I.list hq
  have hi := intsAre_of r'
  have hlen := r'.length
  have hpl := hp.length_eq
  rw [List.length_map] at hlen hz
  refine sorted_ints pl.isList hi (by omega) fun out ns' a1 a2 a3 => ?_
  have e : ns' = ms := PySem.W.ksm_same (a2.trans hp) a3 hs
  subst e
  obtain ⟨ep, he⟩ := sortedAll_at s.heap its out
  have hob : ObjOk X.prog X.w (upd H (s.heap.objs.size + 1) (.lst (ns'.map V.int))) (sortedAll s.heap its out) (s.heap.objs.size + 1) (.lst (ns'.map V.int)) := ⟨by rw [List.length_map]; omega, out.toList, ep, vals_of_ints a1, by rw [he, Array.toArray_toList]⟩
  exact ⟨.ref (s.heap.objs.size + 1), _, I.laid (t' := s.toks) (fun b o hb => sortedAll_old hb) (Nat.le_succ _) hob, rfl, q _ (I.hok.fresh (Nat.le_succ _))⟩
def iOr (a b : TI) : TI := fun σ H R => a σ H R ∨ b σ H R
theorem pi_or {tg e : Expr} {a b : TI} (h1 : PI X tg e a) (h2 : PI X tg e b) : PI X tg e (iOr a b) := fun pins s σ H R I h => h.elim (fun z => h1 pins s σ H R I z) (fun z => h2 pins s σ H R I z)
end
end L2
set_option Elab.async false
set_option linter.all false
set_option maxRecDepth 100000
set_option maxHeartbeats 4000000
namespace L2
open PySem PySem.Spec PyProof.Rows
def TInt (H : Hp) (v : V) (d : List Int) : Prop := ∃ t, v = .ref t ∧ H t = some (.tup (d.map V.int))
def LTInt (H : Hp) (v : V) (ds : List (List Int)) : Prop := ∃ t zs, v = .ref t ∧ H t = some (.lst zs) ∧ Paired (TInt H) zs ds
theorem mapInt_inj {a b : List Int} (h : a.map V.int = b.map V.int) : a = b := by
  induction a generalizing b with
  | nil => cases b with
    | nil => rfl
    | cons _ _ => simp at h
  | cons x r ih => cases b with
    | nil => simp at h
    | cons y q =>
      simp only [List.map_cons, List.cons.injEq] at h
      rw [ih h.2, V.int.inj h.1]
theorem TInt.inj {H : Hp} {v : V} {a b : List Int} (h : TInt H v a) (g : TInt H v b) : a = b := by
  obtain ⟨t, rfl, h1⟩ := h
  obtain ⟨t', e, h2⟩ := g
  cases e
  rw [h1] at h2
  exact mapInt_inj (HO.tup.inj (Option.some.inj h2))
theorem paired_inj {H : Hp} {zs : List V} {a b : List (List Int)} (h : Paired (TInt H) zs a) (g : Paired (TInt H) zs b) : a = b := by
  induction h generalizing b with
  | nil => cases g; rfl
  | cons h1 _ ih => cases g with
    | cons g1 g2 => rw [h1.inj g1, ih g2]
theorem LTInt.inj {H : Hp} {v : V} {a b : List (List Int)} (h : LTInt H v a) (g : LTInt H v b) : a = b := by
  obtain ⟨t, zs, rfl, h1, h2⟩ := h
  obtain ⟨t', zs', e, g1, g2⟩ := g
  cases e
  rw [h1] at g1
  cases HO.lst.inj (Option.some.inj g1)
  exact paired_inj h2 g2
theorem all_get {α : Type} [DecidableEq α] {d d' : List α} (h : d.length = d'.length) : ((List.range d.length).all fun j => decide (d[j]? = d'[j]?)) = decide (d = d') := by
  rw [Bool.eq_iff_iff]
  simp only [List.all_eq_true, List.mem_range, decide_eq_true_eq]
  refine ⟨fun z => List.ext_getElem? fun i => ?_, fun z => by rw [z]; simp⟩
  rcases Nat.lt_or_ge i d.length with c | c
  · exact z i c
  · rw [List.getElem?_eq_none c, List.getElem?_eq_none (by omega)]
theorem all_getM {α : Type} [DecidableEq α] {d d' : List α} : (((List.range (min d.length d'.length)).all fun j => decide (d[j]? = d'[j]?)) && d.length == d'.length) = decide (d = d') := by
  by_cases h : d.length = d'.length
  · rw [← h, Nat.min_self, all_get h]
    simp
  · have : ¬ d = d' := fun z => h (by rw [z])
    simp [h, this]
theorem vals_atJ {xs : List V} {its : List Value} (r : Vals xs its) {j : Nat} {x : V} (h : xs[j]? = some x) (hj : j < its.toArray.size) : RelV x its.toArray[j] := by
  obtain ⟨w1, g1, rw1⟩ := r.get h
  have : its[j]? = some its.toArray[j] := by simp at hj; simp [hj]
  rw [g1] at this
  rw [← Option.some.inj this]
  exact rw1
theorem rel_ref {t : Addr} {w : Value} (h : RelV (.ref t) w) : w = .ref t := by cases h; rfl
theorem tint_eq {X : Cx} {pins : List (Addr × Obj)} {s : Shared} {σ : St} {H : Hp} {A : Around} {t t' : Addr} {d d' : List Int} (I : Inv X pins σ H s) (hu : A.units < cLine) (h : H t = some (.tup (d.map V.int))) (h' : H t' = some (.tup (d'.map V.int))) : SeqAt.EqAt A s (.ref t) (.ref t') (decide (d = d')) := by
  by_cases ett : t = t'
  · subst ett
    rw [h] at h'
    have e : d = d' := mapInt_inj (HO.tup.inj (Option.some.inj h'))
    rw [decide_eq_true e]
    exact SeqAt.EqAt.same _
  · obtain ⟨js, q1, pt1, _⟩ := I.tuple (SqT.of h)
    obtain ⟨js2, q2, pt2, _⟩ := I.tuple (SqT.of h')
    have m1 := q1.length
    have m2 := q2.length
    rw [List.length_map] at m1 m2
    have R := SeqAt.RcAt.tuples (A := A) (e := fun j => decide (d[j]? = d'[j]?)) (show s.heap.IsTuple t js.toArray from pt1) (show s.heap.IsTuple t' js2.toArray from pt2) hu fun j j1 j2 => by
      have k1 : j < d.length := by simp at j1; omega
      have k2 : j < d'.length := by simp at j2; omega
      have r1 := vals_atJ q1 (x := .int d[j]) (by rw [List.getElem?_map, List.getElem?_eq_getElem k1]; rfl) j1
      have r2 := vals_atJ q2 (x := .int d'[j]) (by rw [List.getElem?_map, List.getElem?_eq_getElem k2]; rfl) j2
      have := eqAt_V (A := A.in1) (s := s) r1 r2 rfl rfl
      have e : eqV (.int d[j]) (.int d'[j]) = decide (d[j]? = d'[j]?) := by
        rw [List.getElem?_eq_getElem k1, List.getElem?_eq_getElem k2]
        show (d[j] == d'[j]) = _
        rw [Bool.eq_iff_iff]
        simp
      rw [e] at this
      exact this
    have e1 : js.toArray.size = d.length := by simp; omega
    have e2 : js2.toArray.size = d'.length := by simp; omega
    rw [e1, e2, all_getM] at R
    exact SeqAt.EqAt.of_refs ett R
theorem ltint_eq {X : Cx} {pins : List (Addr × Obj)} {s : Shared} {σ : St} {H : Hp} {A : Around} {t t' : Addr} {zs zs' : List V} {d d' : List (List Int)} (I : Inv X pins σ H s) (hu : A.in1.units < cLine) (hu' : A.units < cLine) (h : SqL X.K H t zs) (hp : Paired (TInt H) zs d) (h' : SqL X.K H t' zs') (hp' : Paired (TInt H) zs' d') (hs : t = t' → zs = zs') : SeqAt.EqAt A s (.ref t) (.ref t') (decide (d = d')) := by
  by_cases ett : t = t'
  · have ez := hs ett
    subst ett ez
    rw [decide_eq_true (paired_inj hp hp')]
    exact SeqAt.EqAt.same _
  · obtain ⟨js, q1, pt1, _⟩ := I.list h
    obtain ⟨js2, q2, pt2, _⟩ := I.list h'
    have m1 := q1.length
    have m2 := q2.length
    have l1 := Paired.length hp
    have l2 := Paired.length hp'
    by_cases hl : d.length = d'.length
    · have R := SeqAt.RcAt.lists (A := A) (e := fun j => decide (d[j]? = d'[j]?)) pt1.isList pt2.isList (by simp; omega) hu' fun j j1 j2 => by
        have k1 : j < zs.length := by simp at j1; omega
        have k2 : j < zs'.length := by simp at j2; omega
        obtain ⟨e1, g1, t1, u1, w1⟩ := Paired.get? hp (List.getElem?_eq_getElem k1)
        obtain ⟨e2, g2, t2, u2, w2⟩ := Paired.get? hp' (List.getElem?_eq_getElem k2)
        have r1 := vals_atJ q1 (List.getElem?_eq_getElem k1) j1
        have r2 := vals_atJ q2 (List.getElem?_eq_getElem k2) j2
        rw [u1] at r1
        rw [u2] at r2
        have f1 : js.toArray[j] = Value.ref t1 := rel_ref r1
        have f2 : js2.toArray[j] = Value.ref t2 := rel_ref r2
        rw [f1, f2, g1, g2]
        have := tint_eq (A := A.in1) I hu w1 w2
        have e : decide (some e1 = some e2) = decide (e1 = e2) := by simp
        rw [e]
        exact this
      have e1 : js.toArray.size = d.length := by simp; omega
      rw [e1, all_get hl] at R
      exact SeqAt.EqAt.of_refs ett R
    · have R := SeqAt.RcAt.lists_lengths (A := A) pt1.isList pt2.isList (by simp; omega) hu'
      have : ¬ d = d' := fun z => hl (by rw [z])
      rw [decide_eq_false this]
      exact SeqAt.EqAt.of_refs ett R
open Classical in
noncomputable def isD (H : Hp) (d : List (List Int)) (u : Value) : Bool := decide (∃ b, u = .ref b ∧ LTInt H (.ref b) d)
open Classical in
theorem isD_t {H : Hp} {d : List (List Int)} {u : Value} (h : ∃ b, u = .ref b ∧ LTInt H (.ref b) d) : isD H d u = true := by unfold isD; exact decide_eq_true h
open Classical in
theorem isD_f {H : Hp} {d : List (List Int)} {u : Value} (h : ¬ ∃ b, u = .ref b ∧ LTInt H (.ref b) d) : isD H d u = false := by unfold isD; exact decide_eq_false h
theorem op_notIn_cuts {X : Cx} (hu : X.A.units + 2 < cLine) : OpR X (compareOp .NotIn) (fun x y H Q => ∃ a l xs ys d ds, x = .ref a ∧ y = .ref l ∧ H a = some (.lst xs) ∧ Paired (TInt H) xs d ∧ SqL X.K H l ys ∧ Paired (LTInt H) ys ds ∧ d ∈ ds ∧ Q (.bl false) H) := by
  intro pins s σ H x y v u Q I rx ry h
  obtain ⟨a, l, xs, ys, d, ds, rfl, rfl, ha, hxs, hl, hys, hd, q⟩ := h
  cases rx
  cases ry
  obtain ⟨its, r, pl, _⟩ := I.list hl
  refine SeqAt.notIn_listAt (isD H d) pl.isList (fun w hw => ?_) ⟨.bl false, H, I, ?_, q⟩
  · obtain ⟨j, hj, e⟩ := List.getElem_of_mem (show w ∈ its by simpa using hw)
    have hj2 : j < its.toArray.size := by simpa using hj
    have hjy : j < ys.length := by have := r.length; omega
    obtain ⟨d', g1, t, zs, u1, w1, w2⟩ := Paired.get? hys (List.getElem?_eq_getElem hjy)
    have r1 := vals_atJ r (List.getElem?_eq_getElem hjy) hj2
    rw [u1] at r1
    have f1 : w = Value.ref t := by
      have : its.toArray[j] = Value.ref t := rel_ref r1
      rw [← this, ← e]
      simp
    have ee : isD H d w = decide (d' = d) := by
      rw [f1]
      by_cases z : d' = d
      · rw [decide_eq_true z]
        exact isD_t ⟨t, rfl, t, zs, rfl, w1, z ▸ w2⟩
      · rw [decide_eq_false z]
        refine isD_f fun ⟨b, eb, hb⟩ => z ?_
        cases eb
        exact LTInt.inj ⟨t, zs, rfl, w1, w2⟩ hb
    rw [ee, f1]
    exact ltint_eq (A := X.A.in1) I (by show X.A.units + 1 + 1 < cLine; exact hu) (by show X.A.units + 1 < cLine; omega) (SqL.of w1) w2 (SqL.of ha) hxs fun z => by
      subst z
      rw [w1] at ha
      exact HO.lst.inj (Option.some.inj ha)
  · obtain ⟨j, hj⟩ := List.getElem?_of_mem hd
    obtain ⟨y, hy, t, zs, u1, w1, w2⟩ := Paired.get?' hys hj
    obtain ⟨w, g, rw1⟩ := r.get hy
    rw [u1] at rw1
    have f1 : w = Value.ref t := by cases rw1; rfl
    have hany : its.toArray.any (isD H d) = true := by
      rw [List.any_toArray]
      refine List.any_eq_true.mpr ⟨w, List.mem_of_getElem? g, ?_⟩
      rw [f1]
      exact isD_t ⟨t, rfl, t, zs, rfl, w1, w2⟩
    rw [hany]
    rfl
end L2
set_option Elab.async false
set_option linter.all false
set_option maxRecDepth 100000
set_option maxHeartbeats 8000000
namespace K56
open PySem L2 PyProof.Rows
def top (i : Nat) : Stmt := PySem.Challenge.pw_bundlehouse_k56_all_small_cuts.main.body.getD i (.Pass ⟨0, 0, 0, 0⟩)
abbrev s_price : Stmt := top 5
abbrev s_pack_price : Stmt := top 6
theorem sc_pack_price : FnScope ["groups", "toll", "pack", "colour", "rows", "number"] ["groups", "toll", "pack"] (defScope s_pack_price) := ⟨rfl, rfl, rfl, by decide +kernel, rfl, by decide +kernel, by decide +kernel⟩
abbrev s_numbers_in : Stmt := top 7
theorem sc_numbers_in : FnScope ["whole"] ["whole"] (defScope s_numbers_in) := ⟨rfl, rfl, rfl, by decide +kernel, rfl, by decide +kernel, by decide +kernel⟩
abbrev s_cheapest : Stmt := top 10
theorem sc_cheapest : FnScope ["groups", "toll", "apart", "together"] ["groups", "toll"] (defScope s_cheapest) := ⟨rfl, rfl, rfl, by decide +kernel, rfl, by decide +kernel, by decide +kernel⟩
abbrev s_best_packs : Stmt := top 11
theorem sc_best_packs : FnScope ["groups", "toll", "prices", "best", "place"] ["groups", "toll"] (defScope s_best_packs) := ⟨rfl, rfl, rfl, by decide +kernel, rfl, by decide +kernel, by decide +kernel⟩
abbrev s_first_packs : Stmt := top 12
theorem sc_first_packs : FnScope ["place", "first"] ["place"] (defScope s_first_packs) := ⟨rfl, rfl, rfl, by decide +kernel, rfl, by decide +kernel, by decide +kernel⟩
abbrev s_least_cut : Stmt := top 13
theorem sc_least_cut : FnScope ["best", "cut", "left", "pack"] ["best"] (defScope s_least_cut) := ⟨rfl, rfl, rfl, by decide +kernel, rfl, by decide +kernel, by decide +kernel⟩
abbrev s_law_cell_at : Stmt := top 15
theorem sc_law_cell_at : FnScope ["_law_script", "_law_k"] ["_law_script", "_law_k"] (defScope s_law_cell_at) := ⟨rfl, rfl, rfl, by decide +kernel, rfl, by decide +kernel, by decide +kernel⟩
abbrev s_law_whole : Stmt := top 16
theorem sc_law_whole : FnScope ["_law_found"] ["_law_found"] (defScope s_law_whole) := ⟨rfl, rfl, rfl, by decide +kernel, rfl, by decide +kernel, by decide +kernel⟩
abbrev s_law_mixed : Stmt := top 17
theorem sc_law_mixed : FnScope ["_law_cell", "_law_k", "_law_prime"] ["_law_cell", "_law_k", "_law_prime"] (defScope s_law_mixed) := ⟨rfl, rfl, rfl, by decide +kernel, rfl, by decide +kernel, by decide +kernel⟩
abbrev s_law_groups : Stmt := top 18
theorem sc_law_groups : FnScope ["_law_script", "_law_first", "_law_many", "_law_wide", "_law_found", "_law_seen", "_law_k", "_law_cell", "_law_number", "_law_shade", "_law_size"] ["_law_script", "_law_first", "_law_many", "_law_wide"] (defScope s_law_groups) := ⟨rfl, rfl, rfl, by decide +kernel, rfl, by decide +kernel, by decide +kernel⟩
abbrev s_law_toll : Stmt := top 19
theorem sc_law_toll : FnScope ["_law_cell"] ["_law_cell"] (defScope s_law_toll) := ⟨rfl, rfl, rfl, by decide +kernel, rfl, by decide +kernel, by decide +kernel⟩
abbrev s_law_ones : Stmt := top 20
theorem sc_law_ones : FnScope ["_law_number", "_law_found"] ["_law_number"] (defScope s_law_ones) := ⟨rfl, rfl, rfl, by decide +kernel, rfl, by decide +kernel, by decide +kernel⟩
abbrev s_law_paid : Stmt := top 21
theorem sc_law_paid : FnScope ["_law_told", "_law_toll_here", "_law_cut", "_law_spent", "_law_pack", "_law_shades", "_law_load", "_law_number"] ["_law_told", "_law_toll_here", "_law_cut"] (defScope s_law_paid) := ⟨rfl, rfl, rfl, by decide +kernel, rfl, by decide +kernel, by decide +kernel⟩
abbrev s_law_is_cut : Stmt := top 22
theorem sc_law_is_cut : FnScope ["_law_found", "_law_many", "_law_numbers", "_law_firsts", "_law_pack", "_law_number"] ["_law_found", "_law_many"] (defScope s_law_is_cut) := ⟨rfl, rfl, rfl, by decide +kernel, rfl, by decide +kernel, by decide +kernel⟩
abbrev s_law_cuts : Stmt := top 23
theorem sc_law_cuts : FnScope ["_law_many", "_law_cuts_here", "_law_k", "_law_more", "_law_cut", "_law_at"] ["_law_many"] (defScope s_law_cuts) := ⟨rfl, rfl, rfl, by decide +kernel, rfl, by decide +kernel, by decide +kernel⟩
abbrev s_law : Stmt := top 24
theorem sc_law : FnScope ["_law_script", "_law_many", "_law_toll_here", "_law_told", "_law_found", "_law_cuts_here", "_law_paid_here", "_law_cut"] ["_law_script"] (defScope s_law) := ⟨rfl, rfl, rfl, by decide +kernel, rfl, by decide +kernel, by decide +kernel⟩
structure Txt (K : PySem.W.Frag) (mg : Str → Option Value) : Prop where
  n_len : mg "len" = none
  n_range : mg "range" = none
  n_str : mg "str" = none
  n_tuple : mg "tuple" = none
  n_list : mg "list" = none
  n_isinstance : mg "isinstance" = none
  n_int : mg "int" = none
  n_bool : mg "bool" = none
  n_min : mg "min" = none
  n_sum : mg "sum" = none
  n_sorted : mg "sorted" = none
  g_MOST_GROUPS : ∃ u, mg "MOST_GROUPS" = some u ∧ RelV (.int 8) u
  d_price : HasDef K mg "price" s_price
  d_pack_price : HasDef K mg "pack_price" s_pack_price
  d_numbers_in : HasDef K mg "numbers_in" s_numbers_in
  d_cheapest : HasDef K mg "cheapest" s_cheapest
  d_best_packs : HasDef K mg "best_packs" s_best_packs
  d_first_packs : HasDef K mg "first_packs" s_first_packs
  d_least_cut : HasDef K mg "least_cut" s_least_cut
  d_law_cell_at : HasDef K mg "_law_cell_at" s_law_cell_at
  d_law_whole : HasDef K mg "_law_whole" s_law_whole
  d_law_mixed : HasDef K mg "_law_mixed" s_law_mixed
  d_law_groups : HasDef K mg "_law_groups" s_law_groups
  d_law_toll : HasDef K mg "_law_toll" s_law_toll
  d_law_ones : HasDef K mg "_law_ones" s_law_ones
  d_law_paid : HasDef K mg "_law_paid" s_law_paid
  d_law_is_cut : HasDef K mg "_law_is_cut" s_law_is_cut
  d_law_cuts : HasDef K mg "_law_cuts" s_law_cuts
section
variable {P : Program} {w : World} {K : PySem.W.Frag} {mg : Str → Option Value} {base : Heap}
theorem pe_globS {X : Cx} {x : Str} {v : V} {pos : Pos} (h : ∃ u, X.mg x = some u ∧ RelV v u) (hg : Gl X x) (hd : (x == ("__debug__" : Str)) = false := by decide) : PE X (.Name x pos) (tC v) := by
  obtain ⟨u, hm, r⟩ := h
  exact pe_glob hg hm r hd
theorem tand_pure {t u : TT} {σ : L2.St} {H : Hp} {a b : Bool} (ht : ∀ Q : Bool → Hp → Prop, Q a H → t σ H Q) (hu : ∀ Q : Bool → Hp → Prop, Q b H → u σ H Q) : ∀ Q : Bool → Hp → Prop, Q (a && b) H → tAnd t u σ H Q := fun Q h => by
  refine ht _ ?_
  cases a with
  | true => exact iteT (hu _ h)
  | false => exact iteF h
theorem nodup_lenG {α : Type} [DecidableEq α] : ∀ (l N : List α), l.Nodup → (∀ x ∈ l, x ∈ N) → l.length ≤ N.length
  | [], N, _, _ => Nat.zero_le _
  | a :: r, N, hn, hs => by
    rw [List.nodup_cons] at hn
    have ha : a ∈ N := hs a List.mem_cons_self
    have h1 := nodup_lenG r (N.erase a) hn.2 fun x hx => (List.mem_erase_of_ne (fun z => hn.1 (by rw [← z]; exact hx))).mpr (hs x (List.mem_cons_of_mem _ hx))
    rw [List.length_erase_of_mem ha] at h1
    have : 0 < N.length := List.length_pos_of_mem ha
    simp only [List.length_cons]; omega
def mixM (c k p : Int) : Int := (c * 48271 + 7919 * k * k + 101 * k) % p
def spCell (K : PySem.W.Frag) : Sp := fun vs H Q _ => ∃ (a : Addr) (ns : List Int) (k : Int), vs = [.ref a, .int k] ∧ SqL K H a (ns.map V.int) ∧ 0 ≤ k ∧ ∀ c : Int, Q (.int c) H
theorem ok_cell (T : Txt K mg) : L2.Cl P w K mg base 1 "_law_cell_at" ["_law_script", "_law_k"] (spCell K) := by
  refine Cl.of T.d_law_cell_at sc_law_cell_at (fun vs H Q E h => ?_) (fun _ _ _ _ _ _ us hl => match us, hl with | [_, _], _ => rfl) (fun f cdv A outer s H vs Q E hr h => ?_)
  · obtain ⟨a, ns, k, rfl, _⟩ := h
    rfl
  · obtain ⟨a, ns, k, rfl, hS, hk, q⟩ := h
    refine ⟨_, (pss_cons (ps_if (pt_cmpR op_lt (pv 1) (pe_callB call_len_seq (by rfl) T.n_len PySem.boot_len (pa_cons (pv 0) pa_nil)) (nomark _))
        (pss_one (ps_ret (pe_ix ix_list (pv 0) (pv 1) (fun _ _ => rfl)))) pss_nil)
      (pss_one (ps_ret pe_int))), ?_⟩
    refine ⟨_, rfl, _, rfl, a, _, rfl, .inl hS, _, _, rfl, rfl, _, rfl, ?_⟩
    refine ite2 (fun hlt => ?_) (fun hlt => ?_)
    · have hlt' : k < (ns.length : Int) := by simpa using hlt
      refine ⟨_, rfl, _, rfl, a, _, _, _, rfl, rfl, hS, atI_map V.int ns 0 hk hlt', ?_⟩
      exact q _
    · exact q 0
def spMixed : Sp := fun vs H Q _ => ∃ c k p : Int, vs = [.int c, .int k, .int p] ∧ 0 ≤ k ∧ k < 1000 ∧ 0 < p ∧ Q (.int (mixM c k p)) H
theorem ok_mixed (T : Txt K mg) : L2.Cl P w K mg base 1 "_law_mixed" ["_law_cell", "_law_k", "_law_prime"] spMixed := by
  refine Cl.of T.d_law_mixed sc_law_mixed (fun vs H Q E h => ?_) (fun _ _ _ _ _ _ us hl => match us, hl with | [_, _, _], _ => rfl) (fun f cdv A outer s H vs Q E hr h => ?_)
  · obtain ⟨c, k, p, rfl, _⟩ := h
    rfl
  · obtain ⟨c, k, p, rfl, hk, hk2, hp, q⟩ := h
    refine ⟨_, (pss_one (ps_ret (pe_op op_mod (pe_op op_add (pe_op op_add (pe_op op_mul (pv 0) pe_int) (pe_op op_mul (pe_op op_mul pe_int (pv 1)) (pv 1))) (pe_op op_mul pe_int (pv 1))) (pv 2)))), ?_⟩
    exact ⟨_, rfl, _, _, rfl, rfl, .inr ⟨by decide, by decide⟩, _, rfl, _, _, rfl, rfl, .inl ⟨by decide, by decide⟩, _, rfl, _, _, rfl, rfl, .inr ⟨by omega, by omega⟩, _, _, rfl, rfl, _, rfl, _, _, rfl, rfl, .inl ⟨by decide, by decide⟩, _, _, rfl, rfl, _, rfl, _, _, rfl, rfl, hp, q⟩
theorem to_g {X R : TS} {D : Ends} {r : VK} {b k : L2.St → Hp → Prop} {i : Nat} {v : V} {σ : L2.St} {H : Hp} (h : tSeq X R D (σ.set i (some v)) H) : gName i v σ H (Ends.nx ⟨tSeq X R D, r, b, k⟩) := h
theorem log_small {n : Nat} (h : n < 100) : ((n : Int)).natAbs.log2 < 1920 := log_ok (by omega) (by omega)
theorem vN_len : ∀ n : Nat, n < 100 → (Str.ofString (toString ((n : Nat) : Int))).length ≤ 8 := by decide +kernel
theorem g_if_any {t : TT} {te : TE} {R : TS} {D : Ends} {r : VK} {b k : L2.St → Hp → Prop} {i : Nat} {v : V} {σ : L2.St} {H : Hp} {Pv : V → Prop} (ht : ∀ Q : Bool → Hp → Prop, (∀ a, Q a H) → t (σ.set i (some v)) H Q) (hA : ∀ Q : VK, (∀ x, Pv x → Q x H) → te (σ.set i (some v)) H Q) (hv : Pv v) (h : ∀ y, Pv y → R D (σ.set i (some y)) H) : gName i v σ H (Ends.nx ⟨tSeq (tIfS t (tAsg te (gName i)) tNext) R D, r, b, k⟩) := by
  refine ht _ fun a => ?_
  cases a with
  | true =>
    refine iteT (hA _ fun x hx => ?_)
    show R D ((σ.set i (some v)).set i (some x)) H
    rw [List.set_set]
    exact h x hx
  | false => exact iteF (h v hv)
theorem b1060 : ((10 : Int) ^ 60) = 1000000000000000000000000000000000000000000000000000000000000 := by decide
def natsV (l : List Nat) : List V := l.map fun (m : Nat) => V.int (m : Int)
theorem natsV_snoc (l : List Nat) (m : Nat) : natsV (l ++ [m]) = natsV l ++ [.int (m : Int)] := by unfold natsV; simp
theorem natsV_len (l : List Nat) : (natsV l).length = l.length := by unfold natsV; simp
theorem natsV_flat : ∀ l : List Nat, (natsV l).all flatV = true
  | [] => rfl
  | a :: r => by
    have := natsV_flat r
    unfold natsV at this ⊢
    rw [List.map_cons, List.all_cons, this]
    rfl
theorem bitOr_nat (a b : Nat) : Builtin.bitOr (a : Int) (b : Int) = ((a ||| b : Nat) : Int) := by
  have n1 : ¬ (0 : Int) ≤ Builtin.bitNot (a : Int) := by unfold Builtin.bitNot; omega
  have n2 : ¬ (0 : Int) ≤ Builtin.bitNot (b : Int) := by unfold Builtin.bitNot; omega
  have inv : ∀ x : Int, Builtin.bitNot (Builtin.bitNot x) = x := fun x => by unfold Builtin.bitNot; omega
  show Builtin.bitNot (Builtin.bitAnd (Builtin.bitNot (a : Int)) (Builtin.bitNot (b : Int))) = _
  rw [bitAnd_nn n1 n2, inv, inv, inv, Int.toNat_natCast, Int.toNat_natCast]
def tTru (K : PySem.W.Frag) (ta : TE) : TT := fun σ H Q => ta σ H fun x H' => ∃ k, TruV K x H' k ∧ Q k H'
theorem pt_truthK {X : Cx} {K : PySem.W.Frag} (hK : X.K = K) {a : Expr} {ta : TE} (ha : PE X a ta) (he : ∀ whole, isTrue a X.env whole = (do let v ← whole; standAt a.pos; holding [v] (truthy v))) :
    PT X a (tTru K ta) := by
  subst hK
  exact pt_truth ha he
theorem tb (c a : Nat) : (Builtin.bitAnd ((c : Int) / 2 ^ ((a : Nat) : Int).toNat) 1 != 0) = c.testBit a := by
  have e : (c : Int) / 2 ^ ((a : Nat) : Int).toNat = ((c / 2 ^ a : Nat) : Int) := by
    rw [Int.toNat_natCast]
    simp
  rw [e, bitAnd_pp (Int.natCast_nonneg _) (by decide), Int.toNat_natCast, Nat.testBit_eq_decide_div_mod_eq]
  have e2 : (1 : Int).toNat = 1 := rfl
  rw [e2, Nat.and_one_is_mod, Bool.eq_iff_iff, decide_eq_true_iff]
  rw [bne_iff_ne]
  omega
def onesN (n : Nat) : Nat := if h : n = 0 then 0 else n % 2 + onesN (n / 2)
termination_by n
decreasing_by exact Nat.div_lt_self (by omega) (by decide)
theorem ones_0 : onesN 0 = 0 := by rw [onesN, dif_pos rfl]
theorem ones_p {n : Nat} (h : n ≠ 0) : onesN n = n % 2 + onesN (n / 2) := by rw [onesN, dif_neg h]
theorem ones_all (n : Nat) : onesN n = n % 2 + onesN (n / 2) := by
  by_cases h : n = 0
  · subst h
    rw [show (0 : Nat) / 2 = 0 from rfl, ones_0]
  · exact ones_p h
theorem count_bits : ∀ (n c : Nat), c < 2 ^ n → ((List.range n).filter fun i => c.testBit i).length = onesN c
  | 0, c, h => by
    have : c = 0 := by simpa using h
    subst this
    rw [ones_0]
    rfl
  | n + 1, c, h => by
    have ih := count_bits n (c / 2) (by rw [Nat.pow_succ] at h; omega)
    rw [ones_all c, ← ih, List.range_succ_eq_map, List.filter_cons]
    have e : (((List.range n).map Nat.succ).filter fun i => c.testBit i).length = ((List.range n).filter fun i => (c / 2).testBit i).length := by
      rw [List.filter_map, List.length_map]
      congr 1
      refine List.filter_congr fun i _ => ?_
      show c.testBit (i + 1) = _
      rw [Nat.testBit_succ]
    have e0 : c.testBit 0 = decide (c % 2 = 1) := Nat.testBit_zero c
    rw [e0]
    by_cases h1 : c % 2 = 1
    · rw [if_pos (decide_eq_true h1), List.length_cons, e, h1]
      omega
    · rw [if_neg (by simp [h1]), e]
      omega
theorem bits_lt (c : Nat) : c < 2 ^ (Builtin.Int.intBits (c : Int)) := by
  have := (PySem.intBits_le_iff (m := Builtin.Int.intBits (c : Int)) (x := (c : Int))).mp (Nat.le_refl _)
  simpa using this
theorem bits_few {c : Nat} (h : c < 2 ^ 24) : Builtin.Int.intBits (c : Int) ≤ 24 := (PySem.intBits_le_iff (m := 24) (x := (c : Int))).mpr (by simpa using h)
def spIn : Sp := fun vs H Q _ => ∃ c : Nat, vs = [.int (c : Int)] ∧ c < 2 ^ 24 ∧ ∀ (p : Addr) (ys : List V) (H' : Hp), Same H H' → H' p = some (.tup ys) → ys.length = onesN c → ys.length ≤ 24 → Q (.ref p) H'
theorem ok_in (T : Txt K mg) : L2.Cl P w K mg base 1 "numbers_in" ["whole"] spIn := by
  refine Cl.of T.d_numbers_in sc_numbers_in (fun vs H Q E h => ?_) (fun _ _ _ _ _ _ us hl => match us, hl with | [_], _ => rfl) (fun f cdv A outer s H vs Q E hr h => ?_)
  · obtain ⟨c, rfl, _⟩ := h
    rfl
  · obtain ⟨c, rfl, hc, q⟩ := h
    have hb := bits_few hc
    have hlt := bits_lt c
    refine ⟨_, (pss_one (ps_ret (pe_callTy call_tuple_of (by rfl) T.n_tuple boot_tuple (pa_cons (pe_comp (M := ["number", "whole"]) (ρ := [none, some 0]) (defScope s_numbers_in) ["whole"] ⟨rfl, by decide +kernel, by decide +kernel, by decide +kernel, rfl, by decide +kernel, by decide +kernel⟩ (pi_range1 (by rfl) T.n_range (pa_cons (pe_bm0 PySem.F.plainAttrs_int PySem.F.slot_int_bit_length PySem.F.type_int_bit_length mt_bit_length (pv 0)) pa_nil)) (fun _ _ _ _ _ _ => (pg_name (i := 0) (show (["number", "whole"] : List Str).Nodup by decide +kernel) rfl (Or.inl rfl))) (fun _ _ _ _ _ _ => (pts_one (pt_truthK (K := K) rfl (pe_op op_and (pe_op op_shr (pv 1) (pv 0)) pe_int) (fun _ => rfl)))) (fun _ _ _ _ _ _ => (pv 0))) pa_nil)))), ?_⟩
    refine ⟨_, rfl, rfl, _, rfl, rfl, _, rfl, by omega, by omega, fun D gD => ?_⟩
    generalize Builtin.Int.intBits (c : Int) = n at hb hlt ⊢
    rw [Int.toNat_natCast]
    refine comp_by n (fun i σ H2 => ∃ (v0 : Option V) (ys : List V), σ = [v0, some (.int (c : Int))] ∧ Same H H2 ∧ H2 D = some (.lst ys) ∧ ys.length = ((List.range i).filter fun j => c.testBit j).length) ⟨_, [], rfl, (Same.refl H).new gD, upd_same, rfl⟩ ?_ ?_
    · rintro i σ H2 hi ⟨v0, ys, rfl, s2, hD2, hy⟩
      have hyl : ys.length ≤ 24 := by
        have := List.length_filter_le (fun j => c.testBit j) (List.range i)
        rw [List.length_range] at this
        omega
      refine ⟨hi, ?_⟩
      rintro x H3 ⟨rfl, rfl⟩
      have hsn : ((List.range (i + 1)).filter fun j => c.testBit j) = ((List.range i).filter fun j => c.testBit j) ++ if c.testBit i = true then [i] else [] := by
        rw [List.range_succ, List.filter_append]
        by_cases e : c.testBit i = true
        · rw [if_pos e, List.filter_cons_of_pos e]; rfl
        · rw [if_neg e, List.filter_cons_of_neg e]; rfl
      refine ⟨_, rfl, _, rfl, _, _, rfl, rfl, (by show 0 ≤ 0 + (i : Int); omega), _, _, rfl, rfl, _, rfl, ?_⟩
      rw [Int.zero_add, tb]
      refine ite2 (fun e => ?_) (fun e => ?_)
      · refine ⟨_, rfl, ys, hD2, small1000 (by omega), _, ys ++ [.int (i : Int)], rfl, s2.put gD, upd_same, ?_⟩
        rw [hsn, if_pos e, List.length_append, List.length_append, hy]
        rfl
      · refine ⟨_, ys, rfl, s2, hD2, ?_⟩
        rw [hsn, if_neg e, List.append_nil]
        exact hy
    · rintro σ H2 ⟨v0, ys, rfl, s2, hD2, hy⟩
      refine ⟨Nat.le_refl _, ?_⟩
      rw [count_bits n c hlt] at hy
      refine ⟨D, _, rfl, .inl ⟨SqL.of hD2, fun p gp => ?_⟩⟩
      refine q p ys _ (s2.new gp) upd_same hy ?_
      have h1 := count_bits n c hlt
      have h2 := List.length_filter_le (fun j => c.testBit j) (List.range n)
      rw [List.length_range] at h2
      omega
def spOnes : Sp := fun vs H Q _ => ∃ c : Nat, vs = [.int (c : Int)] ∧ Q (.int (onesN c : Int)) H
def muN (j : Nat) (σ : L2.St) (_ : Hp) : Nat := match σ[j]? with
  | some (some (V.int i)) => i.toNat
  | _ => 0
theorem ok_ones (T : Txt K mg) : L2.Cl P w K mg base 1 "_law_ones" ["_law_number"] spOnes := by
  refine Cl.of T.d_law_ones sc_law_ones (fun vs H Q E h => ?_) (fun _ _ _ _ _ _ us hl => match us, hl with | [_], _ => rfl) (fun f cdv A outer s H vs Q E hr h => ?_)
  · obtain ⟨c, rfl, _⟩ := h
    rfl
  · obtain ⟨c, rfl, q⟩ := h
    refine ⟨_, (pss_cons (ps_set (i := 1) sc_law_ones.nd rfl (Or.inl rfl) pe_int)
      (pss_cons (ps_while PassesOwn.never (pt_cmpR op_gt (pv 0) pe_int (nomark _))
        (pss_cons (ps_set (i := 1) sc_law_ones.nd rfl (Or.inl rfl) (pe_op op_add (pv 1) (pe_op op_mod (pv 0) pe_int)))
        (pss_one (ps_set (i := 0) sc_law_ones.nd rfl (Or.inl rfl) (pe_op op_fdiv (pv 0) pe_int)))))
      (pss_one (ps_ret (pv 1))))), ?_⟩
    show gName 1 _ _ _ _
    refine to_g ?_
    refine while_by (D := _) (fun σ H2 => H2 = H ∧ ∃ (n m : Nat), σ = [some (.int (n : Int)), some (.int (m : Int))] ∧ m + onesN n = onesN c) (muN 0)
      ⟨rfl, c, 0, rfl, by omega⟩ ?_ ?_
    · rintro σ H2 ⟨rfl, n, m, rfl, e⟩
      refine ⟨_, rfl, _, _, rfl, rfl, _, rfl, ?_⟩
      refine ite2 (fun hc => ?_) (fun hc => ?_)
      · have hn : 0 < n := by have := of_decide_eq_true hc; omega
        refine ⟨_, rfl, _, rfl, _, _, rfl, rfl, (by show (0 : Int) < 2; decide), _, _, rfl, rfl, ?_⟩
        refine ⟨_, rfl, _, _, rfl, rfl, ⟨by decide, by decide⟩, ⟨⟨rfl, n / 2, m + n % 2, ?_, ?_⟩, ?_⟩⟩
        · show [some (V.int ((n : Int) / 2)), some (V.int ((m : Int) + (n : Int) % 2))] = _
          rw [show ((n : Int) / 2) = ((n / 2 : Nat) : Int) by omega, show ((m : Int) + (n : Int) % 2) = ((m + n % 2 : Nat) : Int) by omega]
        · rw [← e, ones_all n]; omega
        · show ((n : Int) / 2).toNat < ((n : Int)).toNat
          omega
      · have hn : n = 0 := by
          have : ¬ ((0 : Int) < (n : Int)) := fun z => hc (decide_eq_true z)
          omega
        subst hn
        rw [ones_0] at e
        have e' : m = onesN c := by omega
        subst e'
        exact ⟨_, rfl, q⟩
    · rintro σ H2 Q1 Q2 hQ ⟨v, e1, i, j, e5, e6, k, e7, h8⟩
      exact ⟨v, e1, i, j, e5, e6, k, e7, hQ _ _ h8⟩
abbrev Gp := Nat × Int
def GAt (H : Hp) (v : V) (g : Gp) : Prop := ∃ t u, v = .ref t ∧ H t = some (.tup [.int (g.1 : Int), u, .int g.2])
def PAt (H : Hp) (v : V) (ks : List Nat) : Prop := ∃ t, v = .ref t ∧ H t = some (.tup (natsV ks))
def gpAt (gs : List Gp) (k : Nat) : Gp := gs.getD k (0, 0)
def oned (gs : List Gp) (ks : List Nat) : Nat := ks.foldl (fun c k => c ||| (gpAt gs k).1) 0
def load (gs : List Gp) (t : Int) (ks : List Nat) : Int := ks.foldl (fun c k => c + (gpAt gs k).2) t
theorem oned_snoc (gs : List Gp) (ks : List Nat) (k : Nat) : oned gs (ks ++ [k]) = oned gs ks ||| (gpAt gs k).1 := by unfold oned; rw [List.foldl_append]; rfl
theorem load_snoc (gs : List Gp) (t : Int) (ks : List Nat) (k : Nat) : load gs t (ks ++ [k]) = load gs t ks + (gpAt gs k).2 := by unfold load; rw [List.foldl_append]; rfl
structure GsOk (gs : List Gp) : Prop where
  lt : ∀ g ∈ gs, g.1 < 2 ^ 24
theorem gpAt_lt {gs : List Gp} (h : GsOk gs) (k : Nat) : (gpAt gs k).1 < 2 ^ 24 := by
  unfold gpAt
  by_cases hk : k < gs.length
  · have : gs.getD k (0, 0) = gs[k] := by simp [List.getD, hk]
    rw [this]
    exact h.lt _ (List.getElem_mem hk)
  · have : gs.getD k (0, 0) = (0, 0) := by rw [List.getD_eq_getElem?_getD, List.getElem?_eq_none (Nat.le_of_not_lt hk)]; rfl
    rw [this]
    decide
theorem oned_lt {gs : List Gp} (h : GsOk gs) (ks : List Nat) : oned gs ks < 2 ^ 24 := by
  unfold oned
  have : ∀ (ks : List Nat) (c : Nat), c < 2 ^ 24 → ks.foldl (fun c k => c ||| (gpAt gs k).1) c < 2 ^ 24 := by
    intro ks
    induction ks with
    | nil => intro c hc; exact hc
    | cons k r ih => intro c hc; exact ih _ (Nat.or_lt_two_pow hc (gpAt_lt h k))
  exact this ks 0 (by decide)
theorem gp_get {H : Hp} {vs : List V} {gs : List Gp} (hp : Paired (GAt H) vs gs) {k : Nat} (hk : k < gs.length) : ∃ t u, atI vs (k : Int) = some (.ref t) ∧ H t = some (.tup [.int ((gpAt gs k).1 : Int), u, .int (gpAt gs k).2]) := by
  have hg : gs[k]? = some gs[k] := by simp [hk]
  obtain ⟨v, hv, t, u, e, ht⟩ := Paired.get?' hp hg
  have : gpAt gs k = gs[k] := by unfold gpAt; simp [List.getD, hk]
  rw [this]
  subst e
  exact ⟨t, u, atI_nat hv, ht⟩
theorem natsV_get {ks : List Nat} {i : Nat} {y : V} (h : (natsV ks)[i]? = some y) : ∃ k, ks[i]? = some k ∧ y = .int (k : Int) := by
  unfold natsV at h
  rw [List.getElem?_map] at h
  cases e : ks[i]? with
  | none => rw [e] at h; cases h
  | some k => rw [e] at h; exact ⟨k, rfl, (Option.some.inj h).symm⟩
def packP (gs : List Gp) (t : Int) (ks : List Nat) : Int := (onesN (oned gs ks) : Int) * load gs t ks
def spPackP : Sp := fun vs H Q _ => ∃ (a b : Addr) (us : List V) (gs : List Gp) (t : Int) (ks : List Nat), vs = [.ref a, .int t, .ref b] ∧ H a = some (.tup us) ∧ Paired (GAt H) us gs ∧ GsOk gs ∧ H b = some (.tup (natsV ks)) ∧ (∀ k ∈ ks, k < gs.length) ∧ ∀ H', Same H H' → Q (.int (packP gs t ks)) H'
theorem ok_packP (T : Txt K mg) : L2.Cl P w K mg base 2 "pack_price" ["groups", "toll", "pack"] spPackP := by
  have C_numbers_in := ok_in (P := P) (w := w) (base := base) T
  refine Cl.of T.d_pack_price sc_pack_price (fun vs H Q E h => ?_) (fun _ _ _ _ _ _ us hl => match us, hl with | [_, _, _], _ => rfl) (fun f cdv A outer s H vs Q E hr h => ?_)
  · obtain ⟨a, b, us, gs, t, ks, rfl, _⟩ := h
    rfl
  · obtain ⟨a, b, us, gs, t, ks, rfl, ha, hus, hok, hb, hks, q⟩ := h
    refine ⟨_, (pss_cons (ps_set (i := 3) sc_pack_price.nd rfl (Or.inl rfl) pe_int)
      (pss_cons (ps_set (i := 4) sc_pack_price.nd rfl (Or.inl rfl) (pv 1))
      (pss_cons (ps_for PassesOwn.never rfl (pi_tup (pv 2)) (pg_name (i := 5) sc_pack_price.nd rfl (Or.inl rfl))
        (pss_cons (ps_aug (i := 3) sc_pack_price.nd rfl (Or.inl rfl) (pe_ix ix_tup (pe_ix ix_tup (pv 0) (pv 5) (fun _ _ => rfl)) pe_int (fun _ _ => rfl)) ip_or)
        (pss_one (ps_aug (i := 4) sc_pack_price.nd rfl (Or.inl rfl) (pe_ix ix_tup (pe_ix ix_tup (pv 0) (pv 5) (fun _ _ => rfl)) pe_int (fun _ _ => rfl)) ip_add))))
      (pss_one (ps_ret (pe_op op_mul (pe_callB call_len_seq (by rfl) T.n_len PySem.boot_len (pa_cons (pe_fn C_numbers_in hr (by rfl) (pa_cons (pv 3) pa_nil)) pa_nil)) (pv 4))))))), ?_⟩
    refine ⟨_, rfl, ?_⟩
    refine ⟨_, rfl, b, rfl, ⟨_, SqT.of hb⟩, for_tup (K := K) (a := b) (xs := natsV ks) (fun i σ H2 => H2 = H ∧ ∃ v5 : Option V, σ = [some (.ref a), some (.int t), some (.ref b), some (.int (oned gs (ks.take i) : Int)), some (.int (load gs t (ks.take i))), v5])
      ⟨rfl, none, rfl⟩ (fun i σ H2 _ ⟨e, _⟩ => by rw [e]; exact SqT.of hb) ?_ ?_⟩
    · rintro i y σ H2 hy ⟨rfl, v5, rfl⟩
      obtain ⟨k, hk, rfl⟩ := natsV_get hy
      obtain ⟨tt, u, hat, htt⟩ := gp_get hus (hks k (List.mem_of_getElem? hk))
      have z0 : atI [V.int ((gpAt gs k).1 : Int), u, V.int (gpAt gs k).2] 0 = some (.int ((gpAt gs k).1 : Int)) := atI_nat (j := 0) rfl
      have z2 : atI [V.int ((gpAt gs k).1 : Int), u, V.int (gpAt gs k).2] 2 = some (.int (gpAt gs k).2) := atI_nat (j := 2) rfl
      refine ⟨_, rfl, _, rfl, _, rfl, a, _, _, _, rfl, rfl, SqT.of ha, hat, tt, _, _, _, rfl, rfl, SqT.of htt, z0, _, _, rfl, rfl, ?_⟩
      refine ⟨_, rfl, _, rfl, _, rfl, a, _, _, _, rfl, rfl, SqT.of ha, hat, tt, _, _, _, rfl, rfl, SqT.of htt, z2, _, _, rfl, rfl, ?_⟩
      refine ⟨rfl, some (.int (k : Int)), ?_⟩
      rw [take_succ_get hk, oned_snoc, load_snoc, ← bitOr_nat]
      rfl
    · rintro σ H2 ⟨rfl, v5, rfl⟩
      rw [natsV_len, List.take_length]
      refine ⟨_, rfl, oned gs ks, rfl, oned_lt hok ks, fun p ys H3 s3 hp hy hy24 => ?_⟩
      refine ⟨p, _, rfl, .inr (SqT.of hp), _, rfl, _, _, rfl, rfl, .inl ⟨by omega, by omega⟩, ?_⟩
      rw [hy]
      exact q H3 s3
def totP (gs : List Gp) (t : Int) (kss : List (List Nat)) : Int := (kss.map (packP gs t)).sum
theorem totP_snoc (gs : List Gp) (t : Int) (kss : List (List Nat)) (ks : List Nat) : totP gs t (kss ++ [ks]) = totP gs t kss + packP gs t ks := by unfold totP; rw [List.map_append, List.sum_append]; simp
def CutAt (H : Hp) (c : Addr) (gs : List Gp) (kss : List (List Nat)) : Prop := ∃ ws, H c = some (.tup ws) ∧ Paired (PAt H) ws kss ∧ (∀ ks ∈ kss, ∀ k ∈ ks, k < gs.length) ∧ kss.length ≤ 24
theorem PAt.mono {H H' : Hp} (s : Tups H H') {v : V} {ks : List Nat} (h : PAt H v ks) : PAt H' v ks := by
  obtain ⟨t, e, h⟩ := h
  exact ⟨t, e, s _ _ h⟩
theorem GAt.mono {H H' : Hp} (s : Tups H H') {v : V} {g : Gp} (h : GAt H v g) : GAt H' v g := by
  obtain ⟨t, u, e, h⟩ := h
  exact ⟨t, u, e, s _ _ h⟩
theorem inV_ints (x : Int) : ∀ l : List Int, inV (.int x) (l.map V.int) = decide (x ∈ l)
  | [] => by simp [inV]
  | a :: r => by
    have ih := inV_ints x r
    unfold inV at ih ⊢
    rw [List.map_cons, List.any_cons, ih]
    by_cases e : a = x
    · subst e; simp [eqV]
    · have h2 : ¬ x = a := fun z => e z.symm
      simp [eqV, e, h2]
theorem ints_flat : ∀ l : List Int, (l.map V.int).all flatV = true
  | [] => rfl
  | a :: r => by rw [List.map_cons, List.all_cons, ints_flat r]; rfl
def nxt (s : Int) : Int := s % 16777215 + 1
def itr (s : Int) (t : Nat) : Int := (s - 1 + t) % 16777215 + 1
theorem itr_0 {s : Int} (h1 : 1 ≤ s) (h2 : s ≤ 16777215) : itr s 0 = s := by unfold itr; omega
theorem itr_n {s : Int} (t : Nat) : itr (nxt s) t = itr s (t + 1) := by unfold itr nxt; omega
theorem itr_inj {s : Int} {t u : Nat} (ht : t < 30) (hu : u < 30) (h : itr s t = itr s u) : t = u := by unfold itr at h; omega
theorem itr_out {s : Int} {l : List Int} (hl : l.length < 24) : ∃ t, itr s t ∉ l := by
  by_cases h : ∃ t, itr s t ∉ l
  · exact h
  · exfalso
    have hall : ∀ t, itr s t ∈ l := fun t => by
      by_cases hc : itr s t ∈ l
      · exact hc
      · exact absurd ⟨t, hc⟩ h
    have hnd : ((List.range 24).map (itr s)).Nodup := by
      rw [List.nodup_iff_pairwise_ne, List.pairwise_map]
      refine List.Pairwise.imp_of_mem ?_ (List.nodup_range (n := 24))
      intro a b ha hb hne e
      exact hne (itr_inj (by have := List.mem_range.mp ha; omega) (by have := List.mem_range.mp hb; omega) e)
    have := nodup_lenG _ l hnd (fun x hx => by
      obtain ⟨t, _, rfl⟩ := List.mem_map.mp hx
      exact hall t)
    rw [List.length_map, List.length_range] at this
    omega
def spGroups (K : PySem.W.Frag) : Sp := fun vs H Q _ => ∃ (a : Addr) (ns : List Int) (f0 n wd : Int), vs = [.ref a, .int f0, .int n, .int wd] ∧ SqL K H a (ns.map V.int) ∧ 0 ≤ f0 ∧ f0 ≤ 30 ∧ 0 ≤ n ∧ n ≤ 24 ∧ ∀ (x : Addr) (vs : List V) (gs : List Gp) (H' : Hp), Same H H' → H' x = some (.tup vs) → Paired (GAt H') vs gs → gs.length = n.toNat → GsOk gs → Q (.ref x) H'
theorem ok_groups (T : Txt K mg) : L2.Cl P w K mg base 2 "_law_groups" ["_law_script", "_law_first", "_law_many", "_law_wide"] (spGroups K) := by
  have C_law_cell_at := ok_cell (P := P) (w := w) (base := base) T
  have C_law_mixed := ok_mixed (P := P) (w := w) (base := base) T
  refine Cl.of T.d_law_groups sc_law_groups (fun vs H Q E h => ?_) (fun _ _ _ _ _ _ us hl => match us, hl with | [_, _, _, _], _ => rfl) (fun f cdv A outer s H vs Q E hr h => ?_)
  · obtain ⟨a, ns, f0, n, wd, rfl, _⟩ := h
    rfl
  · obtain ⟨a, ns, f0, n, wd, rfl, hS, hf0, hf1, hn0, hn1, q⟩ := h
    have hb := b1060
    refine ⟨_, (pss_cons (ps_set (i := 4) sc_law_groups.nd rfl (Or.inl rfl) (pe_lst pa_nil))
      (pss_cons (ps_set (i := 5) sc_law_groups.nd rfl (Or.inl rfl) (pe_lst pa_nil))
      (pss_cons (ps_for PassesOwn.never rfl (pi_range1 (by rfl) T.n_range (pa_cons (pv 2) pa_nil)) (pg_name (i := 6) sc_law_groups.nd rfl (Or.inl rfl))
        (pss_cons (ps_set (i := 7) sc_law_groups.nd rfl (Or.inl rfl) (pe_fn C_law_cell_at hr (by rfl) (pa_cons (pv 0) (pa_cons (pe_op op_add (pv 1) (pv 6)) pa_nil))))
        (pss_cons (ps_set (i := 8) sc_law_groups.nd rfl (Or.inl rfl) (pe_fn C_law_mixed hr (by rfl) (pa_cons (pv 7) (pa_cons (pv 6) (pa_cons pe_int pa_nil)))))
        (pss_cons (ps_set (i := 9) sc_law_groups.nd rfl (Or.inl rfl) (pe_op op_add pe_int (pe_op op_mod (pe_fn C_law_mixed hr (by rfl) (pa_cons (pv 8) (pa_cons (pv 6) (pa_cons pe_int pa_nil)))) (pe_ix ix_list (pe_lst (pa_cons pe_int (pa_cons pe_int (pa_cons pe_int (pa_cons pe_int pa_nil))))) (pe_op op_mod (pv 3) pe_int) (fun _ _ => rfl)))))
        (pss_cons (ps_while PassesOwn.never (pt_cmpR op_in_seq (pv 9) (pv 5) (by with_unfolding_all rfl))
          (pss_one (ps_set (i := 9) sc_law_groups.nd rfl (Or.inl rfl) (pe_op op_add (pe_op op_mod (pv 9) pe_int) pe_int))))
        (pss_cons (ps_expr (pe_bm PySem.F.plainAttrs_list PySem.F.slot_list_append PySem.F.type_list_append mt_append (pv 5) (pa_cons (pv 9) pa_nil)))
        (pss_cons (ps_set (i := 10) sc_law_groups.nd rfl (Or.inl rfl) (pe_op op_add pe_int (pe_op op_mod (pe_op op_fdiv (pv 7) pe_int) pe_int)))
        (pss_cons (ps_if (pt_cmpR op_eq (pe_op op_mod (pv 7) pe_int) pe_int (nomark _))
          (pss_one (ps_set (i := 10) sc_law_groups.nd rfl (Or.inl rfl) (pe_op op_add pe_int (pe_op op_mod (pe_op op_fdiv (pv 7) pe_int) (pe_op op_sub (pe_op op_pow pe_int pe_int) pe_int))))) pss_nil)
        (pss_one (ps_expr (pe_bm PySem.F.plainAttrs_list PySem.F.slot_list_append PySem.F.type_list_append mt_append (pv 4) (pa_cons (pe_tup (pa_cons (pv 9) (pa_cons (pe_tup (pa_cons (pe_op op_add_str pe_str (pe_callTy call_str_int (by rfl) T.n_str boot_str (pa_cons (pv 6) pa_nil))) pa_nil)) (pa_cons (pv 10) pa_nil)))) pa_nil))))))))))))
      (pss_one (ps_ret (pe_callTy call_tuple_of (by rfl) T.n_tuple boot_tuple (pa_cons (pv 4) pa_nil))))))), ?_⟩
    refine ⟨(by show 0 ≤ sizeLine; decide), fun F gF => ?_⟩
    have s1 : Same H (upd H F (.lst [])) := (Same.refl H).new gF
    have hF1 : upd H F (.lst []) F = some (.lst []) := upd_same
    generalize upd H F (.lst []) = H1 at s1 hF1 ⊢
    refine ⟨(by show 0 ≤ sizeLine; decide), fun L gL => ?_⟩
    have hFL : F ≠ L := fun z => by rw [z] at hF1; rw [hF1] at gL; cases gL
    have s2 : Same H (upd H1 L (.lst [])) := s1.new gL
    have gLH : H L = none := s1.free gL
    refine ⟨_, rfl, _, rfl, by omega, by omega, for_range (fun i σ H2 => ∃ (v6 v7 v8 v9 v10 : Option V) (vs : List V) (gs : List Gp) (ls : List Int), σ = [some (.ref a), some (.int f0), some (.int n), some (.int wd), some (.ref F), some (.ref L), v6, v7, v8, v9, v10] ∧ Same H H2 ∧ H2 F = some (.lst vs) ∧ Paired (GAt H2) vs gs ∧ gs.length = i ∧ GsOk gs ∧ H2 L = some (.lst (ls.map V.int)) ∧ ls.length = i)
      ⟨none, none, none, none, none, [], [], [], rfl, s2, upd_keep hF1 gL, .nil, rfl, ⟨by simp⟩, upd_same, rfl⟩ ?_ ?_⟩
    · rintro i σ H2 hi ⟨v6, v7, v8, v9, v10, vs, gs, ls, rfl, s3, hF, hvs, hgl, hgo, hL, hll⟩
      have hvl : vs.length = gs.length := Paired.length hvs
      refine ⟨_, rfl, _, rfl, _, rfl, _, _, rfl, rfl, a, ns, _, rfl, s3.seq hS, by omega, fun c => ?_⟩
      refine ⟨_, rfl, _, rfl, c, 0 + (i : Int), 2147483629, rfl, by omega, by omega, by decide, ?_⟩
      generalize mixM c (0 + (i : Int)) 2147483629 = nu
      refine ⟨_, rfl, _, rfl, nu, 0 + (i : Int), 16777213, rfl, by omega, by omega, by decide, ?_⟩
      generalize mixM nu (0 + (i : Int)) 16777213 = mz
      refine ⟨(by show 4 ≤ sizeLine; decide), fun st gst => ?_⟩
      have s4 : Same H2 (upd H2 st (.lst [.int 7, .int 31, .int 511, .int 16777215])) := (Same.refl H2).new gst
      have hv : ∀ k : Nat, k < 4 → 7 ≤ ([7, 31, 511, 16777215] : List Int).getD k 0 ∧ ([7, 31, 511, 16777215] : List Int).getD k 0 ≤ 16777215 := by decide
      have hwv := hv (wd % 4).toNat (by omega)
      refine ⟨_, rfl, _, _, rfl, rfl, (by show (0 : Int) < 4; decide), st, _, _, _, rfl, rfl, SqL.of upd_same, atI_map V.int [7, 31, 511, 16777215] 0 (by omega) (by show wd % 4 < 4; omega), _, _, rfl, rfl, (by omega), _, _, rfl, rfl, ?_⟩
      generalize ([7, 31, 511, 16777215] : List Int).getD (wd % 4).toNat 0 = wv at hwv ⊢
      have hsh : 1 ≤ 1 + mz % wv ∧ 1 + mz % wv ≤ 16777215 := by
        have h1 := Int.emod_nonneg mz (show wv ≠ 0 by omega)
        have h2 := Int.emod_lt_of_pos mz (show 0 < wv by omega)
        omega
      generalize upd H2 st (.lst [.int 7, .int 31, .int 511, .int 16777215]) = H3 at s4 ⊢
      have hL3 := s4 _ _ hL
      have hF3 := s4 _ _ hF
      have hvs3 : Paired (GAt H3) vs gs := Paired.mapP hvs fun _ _ z => z.mono s4.tups
      have s34 := s3.trans s4
      show gName 9 (V.int (1 + mz % wv)) _ _ _
      generalize 1 + mz % wv = sh at hsh ⊢
      refine to_g ?_
      obtain ⟨t0, ht0⟩ := itr_out (s := sh) (l := ls) (by omega)
      refine ⟨fun m σ H4 => H4 = H3 ∧ ∃ z : Int, σ = [some (.ref a), some (.int f0), some (.int n), some (.int wd), some (.ref F), some (.ref L), some (.int (0 + (i : Int))), some (.int c), some (.int nu), some (.int z), v10] ∧ 1 ≤ z ∧ z ≤ 16777215 ∧ itr z m ∉ ls, ⟨t0, rfl, sh, rfl, hsh.1, hsh.2, ht0⟩, ?_⟩
      · rintro m σ H4 ⟨rfl, z, rfl, hz1, hz2, hzt⟩
        refine ⟨_, rfl, _, rfl, L, _, rfl, .inl (SqL.of hL3), rfl, ints_flat _, _, rfl, ?_⟩
        rw [if_neg Bool.false_ne_true, inV_ints]
        refine ite2 (fun hin => ?_) (fun hin => ?_)
        · have hin' : z ∈ ls := of_decide_eq_true hin
          obtain ⟨t', rfl⟩ : ∃ t', m = t' + 1 := by
            cases m with
            | zero =>
              rw [itr_0 hz1 hz2] at hzt
              exact absurd hin' hzt
            | succ t' => exact ⟨t', rfl⟩
          refine ⟨fun σ' H' => H' = H4 ∧ ∃ z : Int, σ' = [some (.ref a), some (.int f0), some (.int n), some (.int wd), some (.ref F), some (.ref L), some (.int (0 + (i : Int))), some (.int c), some (.int nu), some (.int z), v10] ∧ 1 ≤ z ∧ z ≤ 16777215 ∧ itr z t' ∉ ls, fun σ' H' hN => ⟨t', Nat.lt_succ_self _, hN⟩, ?_⟩
          exact ⟨_, rfl, _, _, rfl, rfl, (by show (0 : Int) < 16777215; decide), _, _, rfl, rfl, rfl, nxt z, rfl, by unfold nxt; omega, by unfold nxt; omega, by rw [itr_n]; exact hzt⟩
        · refine ⟨_, rfl, .inl ⟨rfl, _, SqL.of hL3⟩, _, rfl, L, _, _, rfl, rfl, hL3, small1000 (by rw [List.length_map]; omega), ?_⟩
          have hL5 : upd H4 L (.lst (ls.map V.int ++ [.int z])) L = some (.lst ((ls ++ [z]).map V.int)) := by rw [upd_same, List.map_append]; rfl
          have hF5 : upd H4 L (.lst (ls.map V.int ++ [.int z])) F = some (.lst vs) := by rw [upd_ne hFL]; exact hF3
          have s5 : Same H (upd H4 L (.lst (ls.map V.int ++ [.int z]))) := s34.put gLH
          have hvs5 : Paired (GAt (upd H4 L (.lst (ls.map V.int ++ [.int z])))) vs gs := Paired.mapP hvs3 fun _ _ z => z.mono (Tups.lst hL3)
          generalize upd H4 L (.lst (ls.map V.int ++ [.int z])) = H5 at hL5 hF5 s5 hvs5 ⊢
          refine ⟨_, rfl, _, _, rfl, rfl, ⟨by decide, by decide⟩, _, _, rfl, rfl, (by show (0 : Int) < 20; decide), _, _, rfl, rfl, ?_⟩
          refine g_if_any (Pv := fun y => ∃ m : Int, y = .int m) (fun Q' h => ⟨_, rfl, _, _, rfl, rfl, (by show (0 : Int) < 4; decide), rfl, _, rfl, h _⟩) (fun Q' h => ⟨_, rfl, _, _, rfl, rfl, ⟨by decide, by decide⟩, _, _, rfl, rfl, ⟨by decide, by decide, by decide⟩, _, _, rfl, rfl, _, _, rfl, rfl, (by show (0 : Int) < 10 ^ (60 : Int).toNat - 1; decide), _, _, rfl, rfl, h _ ⟨_, rfl⟩⟩) ⟨_, rfl⟩ ?_
          rintro _ ⟨sz, rfl⟩
          refine ⟨_, rfl, .inl ⟨rfl, _, SqL.of hF5⟩, _, rfl, _, rfl, _, rfl, ?_, _, _, rfl, rfl, ?_, (by show 1 ≤ sizeLine; decide), fun t1 g1 => ⟨_, rfl, (by show 3 ≤ sizeLine; decide), fun t2 g2 => ?_⟩⟩
          · rw [Int.zero_add]; exact log_small (by omega)
          · rw [Int.zero_add]
            have := vN_len i (by omega)
            show 1 + _ ≤ sizeLine
            exact Nat.le_of_lt (small1000 (by omega))
          have s6 := s5.new (o := .tup [.str ("p" ++ Str.ofString (toString (0 + (i : Int))))]) g1
          have s56 : Same H5 _ := (Same.refl H5).new (o := .tup [.str ("p" ++ Str.ofString (toString (0 + (i : Int))))]) g1
          have s57 := s56.new (o := .tup [.int z, .ref t1, .int sz]) g2
          have hF7 := s57 _ _ hF5
          have T7 := Tups.lst (ys := vs ++ [.ref t2]) hF7
          refine ⟨F, _, _, rfl, rfl, hF7, small1000 (by omega), ?_⟩
          refine ⟨_, _, _, _, _, vs ++ [.ref t2], gs ++ [(z.toNat, sz)], ls ++ [z], rfl, (s5.trans s57).put gF, upd_same, Paired.snoc (Paired.mapP hvs5 fun _ _ z => z.mono (s57.tups.trans T7)) ⟨t2, .ref t1, rfl, ?_⟩, by rw [List.length_append, hgl]; rfl, ⟨fun g hg => ?_⟩, ?_, by rw [List.length_append, hll]; rfl⟩
          · refine T7 _ _ ?_
            rw [upd_same]
            show some (HO.tup [V.int z, V.ref t1, V.int sz]) = some (HO.tup [V.int ((z.toNat : Nat) : Int), V.ref t1, V.int sz])
            rw [show ((z.toNat : Nat) : Int) = z by omega]
          · rcases List.mem_append.mp hg with y | y
            · exact hgo.lt g y
            · rw [List.mem_singleton.mp y]
              show z.toNat < 2 ^ 24
              omega
          · rw [upd_ne hFL.symm]
            exact s57 _ _ hL5
    · rintro σ H2 ⟨v6, v7, v8, v9, v10, vs, gs, ls, rfl, s3, hF, hvs, hgl, hgo, hL, hll⟩
      refine ⟨_, rfl, F, _, rfl, .inl ⟨SqL.of hF, fun x gx => ?_⟩⟩
      have s4 : Same H2 (upd H2 x (.tup vs)) := (Same.refl H2).new gx
      exact q x vs gs _ (s3.trans s4) upd_same (Paired.mapP hvs fun _ _ z => z.mono s4.tups) hgl hgo
def spToll : Sp := fun vs H Q _ => ∃ c : Int, vs = [.int c] ∧ ∀ t : Int, Q (.int t) H
theorem ok_toll (T : Txt K mg) : L2.Cl P w K mg base 1 "_law_toll" ["_law_cell"] spToll := by
  refine Cl.of T.d_law_toll sc_law_toll (fun vs H Q E h => ?_) (fun _ _ _ _ _ _ us hl => match us, hl with | [_], _ => rfl) (fun f cdv A outer s H vs Q E hr h => ?_)
  · obtain ⟨c, rfl, _⟩ := h
    rfl
  · obtain ⟨c, rfl, q⟩ := h
    refine ⟨_, (pss_cons (ps_if (pt_cmpR op_eq (pe_op op_mod (pv 0) pe_int) pe_int (nomark _))
        (pss_one (ps_ret (pe_op op_mod (pe_op op_fdiv (pv 0) pe_int) (pe_op op_pow pe_int pe_int)))) pss_nil)
      (pss_one (ps_ret (pe_op op_mod (pe_op op_fdiv (pv 0) pe_int) pe_int)))), ?_⟩
    refine ⟨_, rfl, _, _, rfl, rfl, (by show (0 : Int) < 3; decide), rfl, _, rfl, ?_⟩
    refine ite2 (fun _ => ?_) (fun _ => ?_)
    · exact ⟨_, rfl, _, _, rfl, rfl, ⟨by decide, by decide⟩, _, _, rfl, rfl, ⟨by decide, by decide, by decide⟩, _, _, rfl, rfl, (by show (0 : Int) < 10 ^ (60 : Int).toNat; decide), q _⟩
    · exact ⟨_, rfl, _, _, rfl, rfl, ⟨by decide, by decide⟩, _, _, rfl, rfl, (by show (0 : Int) < 30; decide), q _⟩
def spWhole : Sp := fun vs H Q _ => ∃ c : Int, vs = [.int c] ∧ Q (.bl true) H
theorem ok_whole (T : Txt K mg) : L2.Cl P w K mg base 1 "_law_whole" ["_law_found"] spWhole := by
  refine Cl.of T.d_law_whole sc_law_whole (fun vs H Q E h => ?_) (fun _ _ _ _ _ _ us hl => match us, hl with | [_], _ => rfl) (fun f cdv A outer s H vs Q E hr h => ?_)
  · obtain ⟨c, rfl, _⟩ := h
    rfl
  · obtain ⟨c, rfl, q⟩ := h
    refine ⟨_, (pss_one (ps_ret (pe_and (pe_callB call_isinst (by rfl) T.n_isinstance PyProof.Rows.boot_isinstance (pa_cons (pv 0) (pa_cons (pe_bltn (v := .ty "int") (by rfl) T.n_int boot_int rfl) pa_nil))) (pe_one (pe_not (pe_callB call_isinst (by rfl) T.n_isinstance PyProof.Rows.boot_isinstance (pa_cons (pv 0) (pa_cons (pe_bltn (v := .ty "bool") (by rfl) T.n_bool boot_bool rfl) pa_nil)))))))), ?_⟩
    exact ⟨_, rfl, _, _, _, _, rfl, .int _, kit_same _ _, _, rfl, iteT ⟨_, rfl, _, _, _, _, rfl, .int _, kit_int_bool _, _, rfl, q⟩⟩
theorem and_step (a b : Nat) : a &&& b = 2 * (a / 2 &&& b / 2) + (a % 2) * (b % 2) := by
  have h1 : (a &&& b) / 2 = a / 2 &&& b / 2 := Nat.and_div_two
  have h2 : (a &&& b) % 2 = (a % 2) * (b % 2) := by
    have e := Nat.testBit_and a b 0
    simp only [Nat.testBit_zero] at e
    have m := Nat.mod_two_eq_zero_or_one (a &&& b)
    rcases Nat.mod_two_eq_zero_or_one a with x | x <;> rcases Nat.mod_two_eq_zero_or_one b with y | y <;> rcases m with z | z <;> simp_all
  have := Nat.div_add_mod (a &&& b) 2
  omega
theorem sub_iff {p x : Nat} : p ||| x = x ↔ p &&& x = p := by
  constructor
  · intro h
    refine Nat.eq_of_testBit_eq fun i => ?_
    have e := congrArg (fun z => z.testBit i) h
    simp only [Nat.testBit_or, Nat.testBit_and] at e ⊢
    cases h1 : p.testBit i <;> cases h2 : x.testBit i <;> simp_all
  · intro h
    refine Nat.eq_of_testBit_eq fun i => ?_
    have e := congrArg (fun z => z.testBit i) h
    simp only [Nat.testBit_or, Nat.testBit_and] at e ⊢
    cases h1 : p.testBit i <;> cases h2 : x.testBit i <;> simp_all
def Msk (p x : Nat) : Prop := p &&& x = p
theorem Msk.le {p x : Nat} (h : Msk p x) : p ≤ x := by rw [← h]; exact Nat.and_le_right
theorem Msk.step {p x : Nat} : Msk p x ↔ Msk (p / 2) (x / 2) ∧ (p % 2) * (x % 2) = p % 2 := by
  unfold Msk
  have e := and_step p x
  have m : (p % 2) * (x % 2) < 2 := by
    rcases Nat.mod_two_eq_zero_or_one p with a | a <;> rcases Nat.mod_two_eq_zero_or_one x with b | b <;> rw [a, b] <;> decide
  constructor
  · intro h; omega
  · rintro ⟨h1, h2⟩; omega
theorem and_pred : ∀ (k m : Nat), (2 ^ k * (2 * m + 1)) &&& (2 ^ k * (2 * m + 1) - 1) = 2 ^ (k + 1) * m
  | 0, m => by
    rw [and_step]
    have e1 : (2 ^ 0 * (2 * m + 1)) / 2 = m := by omega
    have e2 : (2 ^ 0 * (2 * m + 1) - 1) / 2 = m := by omega
    have e3 : (2 ^ 0 * (2 * m + 1) - 1) % 2 = 0 := by omega
    rw [e1, e2, e3, Nat.and_self]
    omega
  | k + 1, m => by
    have ih := and_pred k m
    rw [and_step]
    have h : 2 ^ (k + 1) * (2 * m + 1) = 2 * (2 ^ k * (2 * m + 1)) := by rw [Nat.pow_succ, Nat.mul_comm (2 ^ k) 2, Nat.mul_assoc]
    have hp : 0 < 2 ^ k * (2 * m + 1) := Nat.mul_pos (Nat.two_pow_pos k) (by omega)
    have e1 : (2 ^ (k + 1) * (2 * m + 1)) / 2 = 2 ^ k * (2 * m + 1) := by rw [h]; omega
    have e2 : (2 ^ (k + 1) * (2 * m + 1) - 1) / 2 = 2 ^ k * (2 * m + 1) - 1 := by rw [h]; omega
    have e3 : (2 ^ (k + 1) * (2 * m + 1)) % 2 = 0 := by rw [h]; omega
    rw [e1, e2, e3, ih, Nat.zero_mul, Nat.add_zero]
    rw [show k + 1 + 1 = (k + 1) + 1 from rfl, Nat.pow_succ 2 (k + 1), Nat.mul_comm (2 ^ (k + 1)) 2, Nat.mul_assoc]
theorem first_sub : ∀ (k m v : Nat), Msk v (2 ^ (k + 1) * m) → (2 ^ k + v) &&& 2 ^ k = 2 ^ k ∧ Msk (2 ^ k + v) (2 ^ k * (2 * m + 1))
  | 0, m, v, h => by
    have h0 : 2 ^ (0 + 1) * m = 2 * m := by omega
    rw [h0] at h
    obtain ⟨h1, h2⟩ := Msk.step.mp h
    have hv : v % 2 = 0 := by
      have : (2 * m) % 2 = 0 := by omega
      rw [this] at h2; omega
    have hm : 2 * m / 2 = m := by omega
    rw [hm] at h1
    constructor
    · rw [and_step]
      have e1 : (2 ^ 0 + v) % 2 = 1 := by omega
      have e2 : (2 : Nat) ^ 0 / 2 = 0 := by decide
      rw [e1, e2, Nat.and_zero]
    · refine Msk.step.mpr ⟨?_, ?_⟩
      · have e1 : (2 ^ 0 + v) / 2 = v / 2 := by omega
        have e2 : (2 ^ 0 * (2 * m + 1)) / 2 = m := by omega
        rw [e1, e2]; exact h1
      · have e1 : (2 ^ 0 + v) % 2 = 1 := by omega
        have e2 : (2 ^ 0 * (2 * m + 1)) % 2 = 1 := by omega
        rw [e1, e2]
  | k + 1, m, v, h => by
    have h0 : 2 ^ (k + 1 + 1) * m = 2 * (2 ^ (k + 1) * m) := by rw [Nat.pow_succ 2 (k + 1), Nat.mul_comm (2 ^ (k + 1)) 2, Nat.mul_assoc]
    have hx : 2 ^ (k + 1) * (2 * m + 1) = 2 * (2 ^ k * (2 * m + 1)) := by rw [Nat.pow_succ, Nat.mul_comm (2 ^ k) 2, Nat.mul_assoc]
    have hp : 2 ^ (k + 1) = 2 * 2 ^ k := by rw [Nat.pow_succ, Nat.mul_comm]
    rw [h0] at h
    obtain ⟨h1, h2⟩ := Msk.step.mp h
    have hm : 2 * (2 ^ (k + 1) * m) / 2 = 2 ^ (k + 1) * m := by omega
    have hv : v % 2 = 0 := by
      have : (2 * (2 ^ (k + 1) * m)) % 2 = 0 := by omega
      rw [this] at h2; omega
    rw [hm] at h1
    obtain ⟨i1, i2⟩ := first_sub k m (v / 2) h1
    have e1 : (2 ^ (k + 1) + v) / 2 = 2 ^ k + v / 2 := by rw [hp]; omega
    have e2 : (2 ^ (k + 1) + v) % 2 = 0 := by rw [hp]; omega
    have e3 : 2 ^ (k + 1) / 2 = 2 ^ k := by rw [hp]; omega
    constructor
    · rw [and_step, e1, e2, e3, i1, Nat.zero_mul, Nat.add_zero, hp]
    · refine Msk.step.mpr ⟨?_, ?_⟩
      · have e4 : (2 ^ (k + 1) * (2 * m + 1)) / 2 = 2 ^ k * (2 * m + 1) := by rw [hx]; omega
        rw [e1, e4]; exact i2
      · rw [e2, Nat.zero_mul]
theorem sub_first : ∀ (k m p : Nat), p &&& 2 ^ k = 2 ^ k → Msk p (2 ^ k * (2 * m + 1)) → 2 ^ k ≤ p ∧ Msk (p - 2 ^ k) (2 ^ (k + 1) * m)
  | 0, m, p, h, hs => by
    have hp : 2 ^ 0 ≤ p := by rw [← h]; exact Nat.and_le_left
    obtain ⟨h1, h2⟩ := Msk.step.mp hs
    have hp2 : p % 2 = 1 := by
      rw [and_step] at h
      have e : (2 : Nat) ^ 0 / 2 = 0 := by decide
      rw [e, Nat.and_zero] at h
      omega
    refine ⟨hp, Msk.step.mpr ⟨?_, ?_⟩⟩
    · have e1 : (p - 2 ^ 0) / 2 = p / 2 := by omega
      have e2 : (2 ^ (0 + 1) * m) / 2 = m := by omega
      have e3 : (2 ^ 0 * (2 * m + 1)) / 2 = m := by omega
      rw [e3] at h1
      rw [e1, e2]; exact h1
    · have e1 : (p - 2 ^ 0) % 2 = 0 := by omega
      rw [e1, Nat.zero_mul]
  | k + 1, m, p, h, hs => by
    have h0 : 2 ^ (k + 1 + 1) * m = 2 * (2 ^ (k + 1) * m) := by rw [Nat.pow_succ 2 (k + 1), Nat.mul_comm (2 ^ (k + 1)) 2, Nat.mul_assoc]
    have hx : 2 ^ (k + 1) * (2 * m + 1) = 2 * (2 ^ k * (2 * m + 1)) := by rw [Nat.pow_succ, Nat.mul_comm (2 ^ k) 2, Nat.mul_assoc]
    have hp : 2 ^ (k + 1) = 2 * 2 ^ k := by rw [Nat.pow_succ, Nat.mul_comm]
    have hle : 2 ^ (k + 1) ≤ p := by rw [← h]; exact Nat.and_le_left
    rw [hx] at hs
    obtain ⟨h1, h2⟩ := Msk.step.mp hs
    have e4 : 2 * (2 ^ k * (2 * m + 1)) / 2 = 2 ^ k * (2 * m + 1) := by omega
    have hp2 : p % 2 = 0 := by
      have : (2 * (2 ^ k * (2 * m + 1))) % 2 = 0 := by omega
      rw [this] at h2; omega
    rw [e4] at h1
    have e3 : 2 ^ (k + 1) / 2 = 2 ^ k := by rw [hp]; omega
    have h3 : p / 2 &&& 2 ^ k = 2 ^ k := by
      rw [and_step, e3, hp2, Nat.zero_mul, Nat.add_zero] at h
      omega
    obtain ⟨i1, i2⟩ := sub_first k m (p / 2) h3 h1
    refine ⟨hle, Msk.step.mpr ⟨?_, ?_⟩⟩
    · have e1 : (p - 2 ^ (k + 1)) / 2 = p / 2 - 2 ^ k := by rw [hp] at hle ⊢; omega
      have e2 : (2 ^ (k + 1 + 1) * m) / 2 = 2 ^ (k + 1) * m := by rw [h0]; omega
      rw [e1, e2]; exact i2
    · have e1 : (p - 2 ^ (k + 1)) % 2 = 0 := by rw [hp] at hle ⊢; omega
      rw [e1, Nat.zero_mul]
def bitsL (c : Nat) : List Nat := (List.range 24).filter fun j => c.testBit j
theorem filt_ge {c n : Nat} (h : c < 2 ^ n) : ∀ m, n ≤ m → ((List.range m).filter fun j => c.testBit j) = (List.range n).filter fun j => c.testBit j
  | 0, hm => by rw [Nat.le_zero.mp hm]
  | m + 1, hm => by
    by_cases e : n = m + 1
    · rw [e]
    · have hb : c.testBit m = false := Nat.testBit_lt_two_pow (Nat.lt_of_lt_of_le h (Nat.pow_le_pow_right (by decide) (by omega)))
      rw [List.range_succ, List.filter_append, filt_ge h m (by omega), List.filter_cons_of_neg (by rw [hb]; decide)]
      exact List.append_nil _
theorem bitsL_eq {c n : Nat} (h : c < 2 ^ n) (hn : n ≤ 24) : ((List.range n).filter fun j => c.testBit j) = bitsL c := (filt_ge h 24 hn).symm
theorem bitsL_lt {c n k : Nat} (h : c < 2 ^ n) (hn : n ≤ 24) (hk : k ∈ bitsL c) : k < n := by
  rw [← bitsL_eq h hn] at hk
  exact List.mem_range.mp (List.mem_filter.mp hk).1
theorem bitsL_len {c n : Nat} (h : c < 2 ^ n) (hn : n ≤ 24) : (bitsL c).length ≤ n := by
  rw [← bitsL_eq h hn]
  have := List.length_filter_le (fun j => c.testBit j) (List.range n)
  rw [List.length_range] at this
  exact this
theorem bitsL_add {p i : Nat} (hp : p < 2 ^ i) (hi : i < 24) : bitsL (2 ^ i + p) = bitsL p ++ [i] := by
  have h2 : 2 ^ i + p < 2 ^ (i + 1) := by rw [Nat.pow_succ]; omega
  rw [← bitsL_eq h2 (by omega), ← bitsL_eq hp (by omega), List.range_succ, List.filter_append]
  have e1 : ((List.range i).filter fun j => (2 ^ i + p).testBit j) = (List.range i).filter fun j => p.testBit j := by
    refine List.filter_congr fun j hj => ?_
    exact Nat.testBit_two_pow_add_gt (List.mem_range.mp hj) p
  have e2 : (2 ^ i + p).testBit i = true := by
    rw [Nat.testBit_two_pow_add_eq, Nat.testBit_lt_two_pow hp]
    rfl
  rw [e1, List.filter_cons_of_pos e2]
  rfl
theorem odd_part : ∀ x : Nat, 0 < x → ∃ k m, x = 2 ^ k * (2 * m + 1) := by
  intro x
  induction x using Nat.strongRecOn with
  | ind x ih =>
    intro hx
    rcases Nat.mod_two_eq_zero_or_one x with e | e
    · obtain ⟨k, m, h⟩ := ih (x / 2) (by omega) (by omega)
      refine ⟨k + 1, m, ?_⟩
      rw [Nat.pow_succ, Nat.mul_comm (2 ^ k) 2, Nat.mul_assoc, ← h]
      omega
    · exact ⟨0, x / 2, by omega⟩
def lowb (x : Nat) : Nat := x - (x &&& (x - 1))
theorem lowb_eq (k m : Nat) : lowb (2 ^ k * (2 * m + 1)) = 2 ^ k := by
  unfold lowb
  rw [and_pred]
  have h : 2 ^ k * (2 * m + 1) = 2 ^ (k + 1) * m + 2 ^ k := by
    rw [Nat.mul_add, Nat.mul_one, Nat.pow_succ, Nat.mul_assoc]
  rw [h, Nat.add_sub_cancel_left]
def FP (x p : Nat) : Prop := p &&& lowb x = lowb x ∧ p ||| x = x
theorem FP.le {x p : Nat} (h : FP x p) : lowb x ≤ p ∧ p ≤ x := by
  refine ⟨?_, Msk.le (sub_iff.mp h.2)⟩
  rw [← h.1]
  exact Nat.and_le_left
theorem low_pos {x : Nat} (hx : 0 < x) : 0 < lowb x := by
  obtain ⟨k, m, rfl⟩ := odd_part x hx
  rw [lowb_eq]
  exact Nat.two_pow_pos k
theorem low_le {x : Nat} : lowb x ≤ x := by unfold lowb; exact Nat.sub_le _ _
theorem FP_iff {x : Nat} (hx : 0 < x) (v : Nat) : Msk v (x - lowb x) ↔ FP x (lowb x + v) := by
  obtain ⟨k, m, rfl⟩ := odd_part x hx
  have h : 2 ^ k * (2 * m + 1) = 2 ^ (k + 1) * m + 2 ^ k := by
    rw [Nat.mul_add, Nat.mul_one, Nat.pow_succ, Nat.mul_assoc]
  unfold FP
  rw [lowb_eq, show 2 ^ k * (2 * m + 1) - 2 ^ k = 2 ^ (k + 1) * m by omega]
  constructor
  · intro hv
    obtain ⟨h1, h2⟩ := first_sub k m v hv
    exact ⟨h1, sub_iff.mpr h2⟩
  · rintro ⟨h1, h2⟩
    have h3 := (sub_first k m (2 ^ k + v) h1 (sub_iff.mp h2)).2
    rwa [Nat.add_sub_cancel_left] at h3
theorem FP_self {x : Nat} (hx : 0 < x) : FP x x := by
  have h := (FP_iff hx (x - lowb x)).mp (Nat.and_self _)
  have := low_le (x := x)
  rwa [show lowb x + (x - lowb x) = x by omega] at h
structure Opt (pr : Nat → Int) (bs : List (Int × Nat)) : Prop where
  zero : ∀ v, bs[0]? = some v → v = (0, 0)
  hit : ∀ x v, 0 < x → bs[x]? = some v → FP x v.2 ∧ v.1 = pr v.2 + (bs.getD (x - v.2) (0, 0)).1
  low : ∀ x v, 0 < x → bs[x]? = some v → ∀ p, FP x p → v.1 ≤ pr p + (bs.getD (x - p) (0, 0)).1
theorem getD_app {α : Type} {l : List α} {a d : α} {i : Nat} (h : i < l.length) : (l ++ [a]).getD i d = l.getD i d := by
  rw [List.getD_eq_getElem?_getD, List.getD_eq_getElem?_getD, List.getElem?_append_left h]
theorem Opt.snoc {pr : Nat → Int} {bs : List (Int × Nat)} {v : Int × Nat} (h : Opt pr bs) (hl : 0 < bs.length) (h1 : FP bs.length v.2) (h2 : v.1 = pr v.2 + (bs.getD (bs.length - v.2) (0, 0)).1) (h3 : ∀ p, FP bs.length p → v.1 ≤ pr p + (bs.getD (bs.length - p) (0, 0)).1) : Opt pr (bs ++ [v]) := by
  have hlow : ∀ {x p}, 0 < x → FP x p → x - p < x := fun {x p} hx hf => by
    have h4 := hf.le
    have h5 := low_pos hx
    omega
  have hget : ∀ {x u}, (bs ++ [v])[x]? = some u → (x < bs.length ∧ bs[x]? = some u) ∨ (x = bs.length ∧ u = v) := fun {x u} e => by
    rcases Nat.lt_trichotomy x bs.length with c | c | c
    · rw [List.getElem?_append_left c] at e; exact .inl ⟨c, e⟩
    · rw [c, List.getElem?_append_right (Nat.le_refl _), Nat.sub_self] at e; exact .inr ⟨c, (Option.some.inj e).symm⟩
    · rw [List.getElem?_eq_none (by rw [List.length_append]; simp; omega)] at e; cases e
  refine ⟨fun u e => ?_, fun x u hx e => ?_, fun x u hx e p hp => ?_⟩
  · rcases hget e with ⟨_, e'⟩ | ⟨c, _⟩
    · exact h.zero u e'
    · omega
  · rcases hget e with ⟨c, e'⟩ | ⟨c, rfl⟩
    · obtain ⟨a, b⟩ := h.hit x u hx e'
      refine ⟨a, ?_⟩
      rw [getD_app (Nat.lt_trans (hlow hx a) c)]
      exact b
    · subst c
      refine ⟨h1, ?_⟩
      rw [getD_app (hlow hx h1)]
      exact h2
  · rcases hget e with ⟨c, e'⟩ | ⟨c, rfl⟩
    · rw [getD_app (Nat.lt_trans (hlow hx hp) c)]
      exact h.low x u hx e' p hp
    · subst c
      rw [getD_app (hlow hx hp)]
      exact h3 p hp
def spIn2 : Sp := fun vs H Q _ => ∃ c : Nat, vs = [.int (c : Int)] ∧ c < 2 ^ 24 ∧ ∀ (p : Addr) (H' : Hp), Same H H' → H' p = some (.tup (natsV (bitsL c))) → Q (.ref p) H'
theorem ok_in2 (T : Txt K mg) : L2.Cl P w K mg base 1 "numbers_in" ["whole"] spIn2 := by
  refine Cl.of T.d_numbers_in sc_numbers_in (fun vs H Q E h => ?_) (fun _ _ _ _ _ _ us hl => match us, hl with | [_], _ => rfl) (fun f cdv A outer s H vs Q E hr h => ?_)
  · obtain ⟨c, rfl, _⟩ := h
    rfl
  · obtain ⟨c, rfl, hc, q⟩ := h
    have hb := bits_few hc
    have hlt := bits_lt c
    refine ⟨_, (pss_one (ps_ret (pe_callTy call_tuple_of (by rfl) T.n_tuple boot_tuple (pa_cons (pe_comp (M := ["number", "whole"]) (ρ := [none, some 0]) (defScope s_numbers_in) ["whole"] ⟨rfl, by decide +kernel, by decide +kernel, by decide +kernel, rfl, by decide +kernel, by decide +kernel⟩ (pi_range1 (by rfl) T.n_range (pa_cons (pe_bm0 PySem.F.plainAttrs_int PySem.F.slot_int_bit_length PySem.F.type_int_bit_length mt_bit_length (pv 0)) pa_nil)) (fun _ _ _ _ _ _ => (pg_name (i := 0) (show (["number", "whole"] : List Str).Nodup by decide +kernel) rfl (Or.inl rfl))) (fun _ _ _ _ _ _ => (pts_one (pt_truthK (K := K) rfl (pe_op op_and (pe_op op_shr (pv 1) (pv 0)) pe_int) (fun _ => rfl)))) (fun _ _ _ _ _ _ => (pv 0))) pa_nil)))), ?_⟩
    refine ⟨_, rfl, rfl, _, rfl, rfl, _, rfl, by omega, by omega, fun D gD => ?_⟩
    generalize Builtin.Int.intBits (c : Int) = n at hb hlt ⊢
    rw [Int.toNat_natCast]
    refine comp_by n (fun i σ H2 => ∃ v0 : Option V, σ = [v0, some (.int (c : Int))] ∧ Same H H2 ∧ H2 D = some (.lst (natsV ((List.range i).filter fun j => c.testBit j)))) ⟨_, rfl, (Same.refl H).new gD, upd_same⟩ ?_ ?_
    · rintro i σ H2 hi ⟨v0, rfl, s2, hD2⟩
      have hyl : (natsV ((List.range i).filter fun j => c.testBit j)).length ≤ 24 := by
        rw [natsV_len]
        have := List.length_filter_le (fun j => c.testBit j) (List.range i)
        rw [List.length_range] at this
        omega
      refine ⟨hi, ?_⟩
      rintro x H3 ⟨rfl, rfl⟩
      have hsn : ((List.range (i + 1)).filter fun j => c.testBit j) = ((List.range i).filter fun j => c.testBit j) ++ if c.testBit i = true then [i] else [] := by
        rw [List.range_succ, List.filter_append]
        by_cases e : c.testBit i = true
        · rw [if_pos e, List.filter_cons_of_pos e]; rfl
        · rw [if_neg e, List.filter_cons_of_neg e]; rfl
      refine ⟨_, rfl, _, rfl, _, _, rfl, rfl, (by show 0 ≤ 0 + (i : Int); omega), _, _, rfl, rfl, _, rfl, ?_⟩
      rw [Int.zero_add, tb]
      refine ite2 (fun e => ?_) (fun e => ?_)
      · refine ⟨_, rfl, _, hD2, small1000 (by omega), _, rfl, s2.put gD, ?_⟩
        rw [upd_same, hsn, if_pos e, natsV_snoc]
      · refine ⟨_, rfl, s2, ?_⟩
        rw [hsn, if_neg e, List.append_nil]
        exact hD2
    · rintro σ H2 ⟨v0, rfl, s2, hD2⟩
      refine ⟨Nat.le_refl _, ?_⟩
      rw [bitsL_eq hlt hb] at hD2
      refine ⟨D, _, rfl, .inl ⟨SqL.of hD2, fun p gp => ?_⟩⟩
      exact q p _ (s2.new gp) upd_same
def prc (gs : List Gp) (t : Int) (p : Nat) : Int := packP gs t (bitsL p)
def lones (gs : List Gp) (t : Int) : List Int := (List.range (2 ^ gs.length)).map (prc gs t)
theorem lones_len (gs : List Gp) (t : Int) : (lones gs t).length = 2 ^ gs.length := by unfold lones; rw [List.length_map, List.length_range]
theorem two_le {i : Nat} (h : i ≤ 8) : 2 ^ i ≤ 256 := Nat.pow_le_pow_right (n := 2) (by decide) h
theorem bitAnd_nat (a b : Nat) : Builtin.bitAnd (a : Int) (b : Int) = ((a &&& b : Nat) : Int) := by
  rw [bitAnd_pp (Int.natCast_nonneg _) (Int.natCast_nonneg _), Int.toNat_natCast, Int.toNat_natCast]
theorem bitAnd_low {x : Nat} (h : 0 < x) : Builtin.bitAnd (x : Int) (-(x : Int)) = ((lowb x : Nat) : Int) := by
  have h1 : decide (0 ≤ (x : Int)) = true := decide_eq_true (by omega)
  have h2 : decide (0 ≤ -(x : Int)) = false := decide_eq_false (by omega)
  unfold Builtin.bitAnd
  rw [h1, h2]
  show (x : Int) - (((x : Int).toNat &&& (Builtin.bitNot (-(x : Int))).toNat : Nat) : Int) = _
  have e : (Builtin.bitNot (-(x : Int))).toNat = x - 1 := by unfold Builtin.bitNot; omega
  rw [e, Int.toNat_natCast]
  unfold lowb
  have := Nat.and_le_left (n := x) (m := x - 1)
  omega
def fpB (x p : Nat) : Bool := decide (p &&& lowb x = lowb x) && decide (p ||| x = x)
theorem fpB_iff {x p : Nat} : fpB x p = true ↔ FP x p := by
  unfold fpB FP
  rw [Bool.and_eq_true, decide_eq_true_iff, decide_eq_true_iff]
def spFirst : Sp := fun vs H Q _ => ∃ x : Nat, vs = [.int (x : Int)] ∧ 0 < x ∧ x < 256 ∧ ∀ (l : Addr) (ps : List Nat) (H' : Hp), Same H H' → H' l = some (.lst (natsV ps)) → ps ≠ [] → ps.length ≤ 256 → (∀ p, p ∈ ps ↔ FP x p) → Q (.ref l) H'
theorem ok_first (T : Txt K mg) : L2.Cl P w K mg base 1 "first_packs" ["place"] spFirst := by
  refine Cl.of T.d_first_packs sc_first_packs (fun vs H Q E h => ?_) (fun _ _ _ _ _ _ us hl => match us, hl with | [_], _ => rfl) (fun f cdv A outer s H vs Q E hr h => ?_)
  · obtain ⟨x, rfl, _⟩ := h
    rfl
  · obtain ⟨x, rfl, hx0, hx, q⟩ := h
    have hlp := low_pos hx0
    have hll := low_le (x := x)
    refine ⟨_, (pss_cons (ps_set (i := 1) sc_first_packs.nd rfl (Or.inr rfl) (pe_op op_and (pv 0) (pe_un un_neg (pv 0))))
      (pss_one (ps_ret (pe_comp (M := ["pack", "first", "place"]) (ρ := [none, some 1, some 0]) (defScope s_first_packs) ["place", "first"] ⟨rfl, by decide +kernel, by decide +kernel, by decide +kernel, rfl, by decide +kernel, by decide +kernel⟩ (pi_range2 (by rfl) T.n_range (pa_cons (pv 1) (pa_cons (pe_op op_add (pv 0) pe_int) pa_nil))) (fun _ _ _ _ _ _ => (pg_name (i := 0) (show (["pack", "first", "place"] : List Str).Nodup by decide +kernel) rfl (Or.inl rfl))) (fun _ _ _ _ _ _ => (pts_one (PW.pt (pw_and (pt_cmpR op_eq (pe_op op_and (pv 0) (pv 1)) (pv 1) (nomark _)) (pw_and1 (pt_cmpR op_eq (pe_op op_or (pv 0) (pv 2)) (pv 2) (nomark _))))))) (fun _ _ _ _ _ _ => (pv 0)))))), ?_⟩
    refine ⟨_, rfl, _, rfl, _, rfl, _, _, rfl, rfl, ?_⟩
    show gName 1 (V.int (Builtin.bitAnd (x : Int) (-(x : Int)))) _ _ _
    rw [bitAnd_low hx0]
    refine ⟨_, rfl, _, rfl, _, _, rfl, rfl, _, _, rfl, ?_⟩
    have hn : (((x : Int) + 1) - ((lowb x : Nat) : Int)).toNat = x + 1 - lowb x := by omega
    refine ⟨⟨by omega, by omega, by omega, by omega⟩, fun D gD => ?_⟩
    rw [hn]
    refine comp_by (x + 1 - lowb x) (fun i σ H2 => ∃ v0 : Option V, σ = [v0, some (.int ((lowb x : Nat) : Int)), some (.int (x : Int))] ∧ Same H H2 ∧ H2 D = some (.lst (natsV (((List.range i).map fun j => lowb x + j).filter (fpB x))))) ⟨_, rfl, (Same.refl H).new gD, upd_same⟩ ?_ ?_
    · rintro i σ H2 hi ⟨v0, rfl, s2, hD2⟩
      have hyl : (natsV (((List.range i).map fun j => lowb x + j).filter (fpB x))).length ≤ 256 := by
        rw [natsV_len]
        have := List.length_filter_le (fpB x) ((List.range i).map fun j => lowb x + j)
        rw [List.length_map, List.length_range] at this
        omega
      refine ⟨hi, ?_⟩
      rintro y H3 ⟨rfl, rfl⟩
      have hsn : (((List.range (i + 1)).map fun j => lowb x + j).filter (fpB x)) = (((List.range i).map fun j => lowb x + j).filter (fpB x)) ++ if fpB x (lowb x + i) = true then [lowb x + i] else [] := by
        rw [List.range_succ, List.map_append, List.filter_append]
        by_cases e : fpB x (lowb x + i) = true
        · rw [if_pos e, List.map_cons, List.filter_cons_of_pos e]; rfl
        · rw [if_neg e, List.map_cons, List.filter_cons_of_neg e]; rfl
      have ec : ((lowb x : Nat) : Int) + (i : Int) = ((lowb x + i : Nat) : Int) := by omega
      rw [ec]
      refine tand_pure (a := decide ((lowb x + i) &&& lowb x = lowb x)) (b := decide ((lowb x + i) ||| x = x)) (fun Q' h => ?_) (fun Q' h => ?_) _ ?_
      · refine ⟨_, rfl, _, rfl, _, _, rfl, rfl, _, rfl, rfl, _, rfl, ?_⟩
        have e : decide (V.int (Builtin.bitAnd ((lowb x + i : Nat) : Int) ((lowb x : Nat) : Int)) = V.int ((lowb x : Nat) : Int)) = decide ((lowb x + i) &&& lowb x = lowb x) := by
          rw [bitAnd_nat]
          exact decide_eq_decide.mpr ⟨fun z => Int.ofNat.inj (V.int.inj z), fun z => by rw [z]⟩
        show Q' (decide (V.int (Builtin.bitAnd ((lowb x + i : Nat) : Int) ((lowb x : Nat) : Int)) = V.int ((lowb x : Nat) : Int))) _
        rw [e]
        exact h
      · refine ⟨_, rfl, _, rfl, _, _, rfl, rfl, _, rfl, rfl, _, rfl, ?_⟩
        have e : decide (V.int (Builtin.bitOr ((lowb x + i : Nat) : Int) (x : Int)) = V.int (x : Int)) = decide ((lowb x + i) ||| x = x) := by
          rw [bitOr_nat]
          exact decide_eq_decide.mpr ⟨fun z => Int.ofNat.inj (V.int.inj z), fun z => by rw [z]⟩
        show Q' (decide (V.int (Builtin.bitOr ((lowb x + i : Nat) : Int) (x : Int)) = V.int (x : Int))) _
        rw [e]
        exact h
      show if fpB x (lowb x + i) = true then _ else _
      refine ite2 (fun e => ?_) (fun e => ?_)
      · refine ⟨_, rfl, _, hD2, small1000 (by omega), _, rfl, s2.put gD, ?_⟩
        rw [upd_same, hsn, if_pos e, natsV_snoc]
      · refine ⟨_, rfl, s2, ?_⟩
        rw [hsn, if_neg e, List.append_nil]
        exact hD2
    · rintro σ H2 ⟨v0, rfl, s2, hD2⟩
      refine ⟨Nat.le_refl _, ?_⟩
      have hmem : ∀ p, p ∈ (((List.range (x + 1 - lowb x)).map fun j => lowb x + j).filter (fpB x)) ↔ FP x p := fun p => by
        rw [List.mem_filter, fpB_iff]
        refine ⟨fun z => z.2, fun z => ⟨?_, z⟩⟩
        have := z.le
        exact List.mem_map.mpr ⟨p - lowb x, List.mem_range.mpr (by omega), by omega⟩
      refine q D _ H2 s2 hD2 (fun z => ?_) ?_ hmem
      · have := (hmem x).mpr (FP_self hx0)
        rw [z] at this
        simp at this
      · have := List.length_filter_le (fpB x) ((List.range (x + 1 - lowb x)).map fun j => lowb x + j)
        rw [List.length_map, List.length_range] at this
        omega
def PrB (H : Hp) (v : V) (x : Int × Nat) : Prop := ∃ t, v = .ref t ∧ H t = some (.tup [.int x.1, .int (x.2 : Int)])
theorem PrB.mono {H H' : Hp} (s : Tups H H') {v : V} {x : Int × Nat} (h : PrB H v x) : PrB H' v x := by
  obtain ⟨t, e, h⟩ := h
  exact ⟨t, e, s _ _ h⟩
def spBest : Sp := fun vs H Q _ => ∃ (a : Addr) (us : List V) (gs : List Gp) (t : Int), vs = [.ref a, .int t] ∧ H a = some (.tup us) ∧ Paired (GAt H) us gs ∧ GsOk gs ∧ gs.length ≤ 8 ∧ ∀ (l : Addr) (vs : List V) (bs : List (Int × Nat)) (H' : Hp), Same H H' → H' l = some (.lst vs) → Paired (PrB H') vs bs → Opt (prc gs t) bs → bs.length = 2 ^ gs.length → Q (.ref l) H'
theorem ok_best (T : Txt K mg) : L2.Cl P w K mg base 3 "best_packs" ["groups", "toll"] spBest := by
  have C_pack_price := ok_packP (P := P) (w := w) (base := base) T
  have C_numbers_in := ok_in2 (P := P) (w := w) (base := base) T
  have C_first_packs := ok_first (P := P) (w := w) (base := base) T
  refine Cl.of T.d_best_packs sc_best_packs (fun vs H Q E h => ?_) (fun _ _ _ _ _ _ us hl => match us, hl with | [_, _], _ => rfl) (fun f cdv A outer s H vs Q E hr h => ?_)
  · obtain ⟨a, us, gs, t, rfl, _⟩ := h
    rfl
  · obtain ⟨a, us, gs, t, rfl, ha, hus, hok, hg8, q⟩ := h
    have hul : us.length = gs.length := Paired.length hus
    have hu := hu_of hr
    have h256 : 2 ^ gs.length ≤ 256 := two_le hg8
    have hpos : 0 < 2 ^ gs.length := Nat.two_pow_pos _
    refine ⟨_, (pss_cons (ps_if (pt_cmpR op_gt (pe_callB call_len_seq (by rfl) T.n_len PySem.boot_len (pa_cons (pv 0) pa_nil)) (pe_globS T.g_MOST_GROUPS (by rfl)) (nomark _))
        (pss_one ps_never) pss_nil)
      (pss_cons (ps_set (i := 2) sc_best_packs.nd rfl (Or.inr rfl) (pe_comp (M := ["pack", "groups", "toll"]) (ρ := [none, some 0, some 1]) (defScope s_best_packs) ["groups", "toll", "prices", "best", "place"] ⟨rfl, by decide +kernel, by decide +kernel, by decide +kernel, rfl, by decide +kernel, by decide +kernel⟩ (pi_range1 (by rfl) T.n_range (pa_cons (pe_op op_shl pe_int (pe_callB call_len_seq (by rfl) T.n_len PySem.boot_len (pa_cons (pv 0) pa_nil))) pa_nil)) (fun _ _ _ _ _ _ => (pg_name (i := 0) (show (["pack", "groups", "toll"] : List Str).Nodup by decide +kernel) rfl (Or.inl rfl))) (fun _ _ _ _ _ _ => pts_nil) (fun _ _ _ _ _ _ => (pe_fn C_pack_price hr (by rfl) (pa_cons (pv 1) (pa_cons (pv 2) (pa_cons (pe_fn C_numbers_in hr (by rfl) (pa_cons (pv 0) pa_nil)) pa_nil)))))))
      (pss_cons (ps_set (i := 3) sc_best_packs.nd rfl (Or.inr rfl) (pe_lst (pa_cons (pe_tup (pa_cons pe_int (pa_cons pe_int pa_nil))) pa_nil)))
      (pss_cons (ps_for PassesOwn.never rfl (pi_range2 (by rfl) T.n_range (pa_cons pe_int (pa_cons (pe_callB call_len_seq (by rfl) T.n_len PySem.boot_len (pa_cons (pv 2) pa_nil)) pa_nil))) (pg_name (i := 4) sc_best_packs.nd rfl (Or.inr rfl))
        (pss_one (ps_expr (pe_bm PySem.F.plainAttrs_list PySem.F.slot_list_append PySem.F.type_list_append mt_append (pv 3) (pa_cons (pe_callB (call_minP rfl hu) (by rfl) T.n_min boot_min (pa_cons (pe_comp (M := ["pack", "prices", "best", "place"]) (ρ := [none, some 2, some 3, some 4]) (defScope s_best_packs) ["groups", "toll", "prices", "best", "place"] ⟨rfl, by decide +kernel, by decide +kernel, by decide +kernel, rfl, by decide +kernel, by decide +kernel⟩ (pi_list (pe_fn C_first_packs hr (by rfl) (pa_cons (pv 4) pa_nil))) (fun _ _ _ _ _ _ => (pg_name (i := 0) (show (["pack", "prices", "best", "place"] : List Str).Nodup by decide +kernel) rfl (Or.inl rfl))) (fun _ _ _ _ _ _ => pts_nil) (fun _ _ _ _ _ _ => (pe_tup (pa_cons (pe_op op_add (pe_ix (ix_listK (K := K) rfl) (pv 1) (pv 0) (fun _ _ => rfl)) (pe_ix (ix_tupK (K := K) rfl) (pe_ix (ix_listK (K := K) rfl) (pv 2) (pe_op op_sub (pv 3) (pv 0)) (fun _ _ => rfl)) pe_int (fun _ _ => rfl))) (pa_cons (pv 0) pa_nil))))) pa_nil)) pa_nil)))))
      (pss_one (ps_ret (pv 3))))))), ?_⟩
    refine ⟨_, rfl, a, _, rfl, .inr (SqT.of ha), _, _, rfl, rfl, _, rfl, ite2 (fun hh => absurd (of_decide_eq_true hh) (by omega)) fun _ => ?_⟩
    refine ⟨_, rfl, a, _, rfl, .inr (SqT.of ha), _, _, rfl, rfl, ⟨by omega, by omega, by decide⟩, _, rfl, ?_⟩
    have e2 : (1 : Int) * 2 ^ ((us.length : Int)).toNat = ((2 ^ gs.length : Nat) : Int) := by
      rw [Int.one_mul, Int.toNat_natCast, hul, Int.natCast_pow]
      rfl
    rw [e2]
    refine ⟨by omega, by omega, fun D gD => ?_⟩
    rw [Int.toNat_natCast]
    refine comp_by (2 ^ gs.length) (fun i σ H2 => ∃ v0 : Option V, σ = [v0, some (.ref a), some (.int t)] ∧ Same H H2 ∧ H2 D = some (.lst (((lones gs t).take i).map V.int))) ⟨_, rfl, (Same.refl H).new gD, by rw [upd_same, List.take_zero]; rfl⟩ ?_ ?_
    · rintro i σ H2 hi ⟨v0, rfl, s2, hD2⟩
      refine ⟨hi, ?_⟩
      rintro y H3 ⟨rfl, rfl⟩
      refine ntG ?_
      rw [Int.zero_add]
      have hi24 : i < 2 ^ 24 := Nat.lt_of_lt_of_le (Nat.lt_of_lt_of_le hi h256) (by decide)
      have hlj : (lones gs t)[i]? = some (prc gs t i) := by
        unfold lones
        rw [List.getElem?_map, List.getElem?_range hi]
        rfl
      refine ⟨_, rfl, _, rfl, _, rfl, i, rfl, hi24, fun p H4 s4 hp => ?_⟩
      have s24 := s2.trans s4
      refine ⟨a, p, us, gs, t, bitsL i, rfl, s24 _ _ ha, Paired.mapP hus fun _ _ z => z.mono s24.tups, hok, hp, fun k hk => bitsL_lt hi (by omega) hk, fun H5 s5 => ?_⟩
      refine ⟨_, s5 _ _ (s4 _ _ hD2), small1000 (by rw [List.length_map, List.length_take, lones_len]; omega), _, rfl, (s24.trans s5).put gD, ?_⟩
      rw [upd_same, take_succ_get hlj, List.map_append]
      rfl
    rintro σ H2 ⟨v0, rfl, s2, hD2⟩
    refine ⟨Nat.le_refl _, ?_⟩
    rw [← lones_len gs t, List.take_length] at hD2
    refine ⟨(by show 2 ≤ sizeLine; decide), fun q0 gq => ?_⟩
    have s3 : Same H2 (upd H2 q0 (.tup [.int 0, .int 0])) := (Same.refl H2).new gq
    have hq0 : upd H2 q0 (.tup [.int 0, .int 0]) q0 = some (.tup [.int 0, .int 0]) := upd_same
    generalize upd H2 q0 (.tup [.int 0, .int 0]) = H3 at s3 hq0 ⊢
    have hD3 := s3 _ _ hD2
    refine ⟨(by show 1 ≤ sizeLine; decide), fun B gB => ?_⟩
    have hBD : D ≠ B := fun z => by rw [← z, hD3] at gB; cases gB
    have gBH : H B = none := s2.free (s3.free gB)
    have s4 : Same H (upd H3 B (.lst [.ref q0])) := (s2.trans s3).new gB
    have hD4 : upd H3 B (.lst [.ref q0]) D = some (.lst ((lones gs t).map V.int)) := upd_keep hD3 gB
    have hB4 : upd H3 B (.lst [.ref q0]) B = some (.lst [.ref q0]) := upd_same
    have hq4 : upd H3 B (.lst [.ref q0]) q0 = some (.tup [.int 0, .int 0]) := upd_keep hq0 gB
    generalize upd H3 B (.lst [.ref q0]) = H4 at s4 hD4 hB4 hq4 ⊢
    refine ⟨_, rfl, D, _, rfl, .inl (SqL.of hD4), _, _, rfl, ?_⟩
    rw [List.length_map, lones_len]
    have hn : (((2 ^ gs.length : Nat) : Int) - 1).toNat = 2 ^ gs.length - 1 := by omega
    refine ⟨⟨by omega, by omega, by omega, by omega⟩, ?_⟩
    rw [hn]
    refine for_range (fun i σ H5 => ∃ (v4 : Option V) (vs : List V) (bs : List (Int × Nat)), σ = [some (.ref a), some (.int t), some (.ref D), some (.ref B), v4] ∧ Same H H5 ∧ H5 D = some (.lst ((lones gs t).map V.int)) ∧ H5 B = some (.lst vs) ∧ Paired (PrB H5) vs bs ∧ Opt (prc gs t) bs ∧ bs.length = i + 1)
      ⟨none, [.ref q0], [(0, 0)], rfl, s4, hD4, hB4, .cons ⟨q0, rfl, hq4⟩ .nil, ⟨fun v e => (Option.some.inj e).symm, fun x v hx e => ?_, fun x v hx e => ?_⟩, rfl⟩ ?_ ?_
    · rw [List.getElem?_eq_none (by simp; omega)] at e; cases e
    · rw [List.getElem?_eq_none (by simp; omega)] at e; cases e
    · rintro i σ H5 hi ⟨v4, vs, bs, rfl, s5, hD5, hB5, hvs, hopt, hbl⟩
      have hvl : vs.length = bs.length := Paired.length hvs
      have ex : (1 : Int) + (i : Int) = ((bs.length : Nat) : Int) := by omega
      rw [ex]
      refine ⟨_, rfl, .inl ⟨rfl, _, SqL.of hB5⟩, _, rfl, bs.length, rfl, by omega, by omega, fun l ps H6 s6 hl hpne hpl hpm => ?_⟩
      refine ⟨l, rfl, ⟨_, SqL.of hl⟩, fun D7 gD7 => ?_⟩
      refine comp_by ps.length (fun j σ H7 => ∃ (v0 : Option V) (ws : List V), σ = [v0, some (.ref D), some (.ref B), some (.int ((bs.length : Nat) : Int))] ∧ Same H6 H7 ∧ H7 D7 = some (.lst ws) ∧ Paired (PrB H7) ws ((ps.take j).map fun p => (prc gs t p + (bs.getD (bs.length - p) (0, 0)).1, p))) ⟨_, [], rfl, (Same.refl H6).new gD7, upd_same, by rw [List.take_zero]; exact .nil⟩ ?_ ?_
      · rintro j σ H7 hj ⟨v0, ws, rfl, s7, hD7, hws⟩
        refine ⟨⟨_, .int (ps[j] : Int), SqL.of (s7 _ _ hl), by unfold natsV; simp [hj]⟩, ?_⟩
        rintro y H8 ⟨rfl, hy⟩
        obtain ⟨p, hp, rfl⟩ := natsV_get (hy _ (SqL.of (s7 _ _ hl)))
        have hfp := (hpm p).mp (List.mem_of_getElem? hp)
        have hple := hfp.le
        have hlp := low_pos (x := bs.length) (by omega)
        have hwl : ws.length ≤ 256 := by rw [Paired.length hws, List.length_map, List.length_take]; omega
        have s67 := s6.trans s7
        have hlj : (lones gs t)[p]? = some (prc gs t p) := by
          unfold lones
          rw [List.getElem?_map, List.getElem?_range (by omega)]
          rfl
        have atp : atI ((lones gs t).map V.int) (p : Int) = some (.int (prc gs t p)) := atI_nat (by rw [List.getElem?_map, hlj]; rfl)
        have hb : bs[bs.length - p]? = some bs[bs.length - p] := List.getElem?_eq_getElem (by omega)
        obtain ⟨u, hu', tb, eb, htb⟩ := Paired.get?' hvs hb
        subst eb
        have hgd : bs.getD (bs.length - p) (0, 0) = bs[bs.length - p] := by rw [List.getD_eq_getElem?_getD, hb]; rfl
        have atb : atI vs (((bs.length : Nat) : Int) - (p : Int)) = some (.ref tb) := by
          rw [show ((bs.length : Nat) : Int) - (p : Int) = ((bs.length - p : Nat) : Int) by omega]
          exact atI_nat hu'
        have z0 : atI [V.int (bs[bs.length - p]).1, V.int ((bs[bs.length - p]).2 : Int)] 0 = some (.int (bs[bs.length - p]).1) := atI_nat (j := 0) rfl
        refine ntG ?_
        refine ⟨_, rfl, _, rfl, D, _, _, _, rfl, rfl, SqL.of (s67 _ _ hD5), atp, _, rfl, _, rfl, _, rfl, _, _, rfl, rfl, B, _, _, _, rfl, rfl, SqL.of (s67 _ _ hB5), atb, tb, _, _, _, rfl, rfl, SqT.of (s67 _ _ htb), z0, _, _, rfl, rfl, _, rfl, (by show 2 ≤ sizeLine; decide), fun r gr => ?_⟩
        have s8 := (Same.refl H8).new (o := .tup [.int (prc gs t p + (bs[bs.length - p]).1), .int (p : Int)]) gr
        have T9 := Tups.lst (ys := ws ++ [.ref r]) (s8 _ _ hD7)
        refine ⟨ws, s8 _ _ hD7, small1000 (by omega), _, ws ++ [.ref r], rfl, (s7.trans s8).put gD7, upd_same, ?_⟩
        rw [take_succ_get hp, List.map_append]
        refine Paired.snoc (Paired.mapP hws fun _ _ z => z.mono (s8.tups.trans T9)) ⟨r, rfl, T9 _ _ ?_⟩
        rw [upd_same]
        show _ = some (HO.tup [V.int (prc gs t p + (bs.getD (bs.length - p) (0, 0)).1), V.int (p : Int)])
        rw [hgd]
      rintro σ H7 ⟨v0, ws, rfl, s7, hD7, hws⟩
      refine ⟨⟨_, SqL.of (s7 _ _ hl), by rw [natsV_len]; exact Nat.le_refl _⟩, ?_⟩
      rw [List.take_length] at hws
      refine ⟨D7, ws, (ps.map fun p => (prc gs t p + (bs.getD (bs.length - p) (0, 0)).1, p)).map fun x => (x.1, (x.2 : Int)), rfl, SqL.of hD7, ?_, fun z => hpne (List.map_eq_nil_iff.mp (List.map_eq_nil_iff.mp z)), fun k v n hv hn hmin => ?_⟩
      · clear hD7
        generalize (ps.map fun p => (prc gs t p + (bs.getD (bs.length - p) (0, 0)).1, p)) = xs at hws ⊢
        induction hws with
        | nil => exact .nil
        | cons h _ ih =>
          obtain ⟨tt, e, ht⟩ := h
          exact .cons ⟨tt, e, SqT.of ht⟩ ih
      obtain ⟨x, hx, tv, ev, htv⟩ := Paired.get? hws hv
      subst ev
      rw [List.getElem?_map] at hx
      cases ep : ps[k]? with
      | none => rw [ep] at hx; cases hx
      | some p =>
        rw [ep] at hx
        cases hx
        have hn' : n = (prc gs t p + (bs.getD (bs.length - p) (0, 0)).1, (p : Int)) := by
          rw [List.getElem?_map, List.getElem?_map, ep] at hn
          exact (Option.some.inj hn).symm
        have hfp := (hpm p).mp (List.mem_of_getElem? ep)
        have hB7 := (s6.trans s7) _ _ hB5
        refine ⟨B, _, _, rfl, rfl, hB7, small1000 (by omega), ?_⟩
        have T8 := Tups.lst (ys := vs ++ [.ref tv]) hB7
        refine ⟨_, vs ++ [.ref tv], bs ++ [(prc gs t p + (bs.getD (bs.length - p) (0, 0)).1, p)], rfl, ((s5.trans s6).trans s7).put gBH, ?_, upd_same, ?_, ?_, ?_⟩
        · rw [upd_ne hBD]; exact (s6.trans s7) _ _ hD5
        · exact Paired.snoc (Paired.mapP hvs fun _ _ z => z.mono ((s6.trans s7).tups.trans T8)) ⟨tv, rfl, T8 _ _ htv⟩
        · refine hopt.snoc (by omega) hfp rfl fun p' hp' => ?_
          have h1 := hmin (prc gs t p' + (bs.getD (bs.length - p') (0, 0)).1, (p' : Int)) (List.mem_map.mpr ⟨_, List.mem_map.mpr ⟨p', (hpm p').mpr hp', rfl⟩, rfl⟩)
          rw [hn'] at h1
          exact h1
        · rw [List.length_append, hbl]; rfl
    · rintro σ H5 ⟨v4, vs, bs, rfl, s5, hD5, hB5, hvs, hopt, hbl⟩
      exact ⟨_, rfl, q B vs bs H5 s5 hB5 hvs hopt (by omega)⟩
theorem sub_bit : ∀ (i q X : Nat), Msk q X → (X - q).testBit i = (X.testBit i && !q.testBit i)
  | 0, q, X, h => by
    obtain ⟨h1, h2⟩ := Msk.step.mp h
    have hl := h.le
    have hl2 := h1.le
    simp only [Nat.testBit_zero]
    rcases Nat.mod_two_eq_zero_or_one q with a | a <;> rcases Nat.mod_two_eq_zero_or_one X with b | b <;> rw [a, b] at h2 <;> rw [a, b] <;> simp at h2 ⊢ <;> omega
  | i + 1, q, X, h => by
    obtain ⟨h1, h2⟩ := Msk.step.mp h
    have hl := h.le
    have e : (X - q) / 2 = X / 2 - q / 2 := by
      have hl2 := h1.le
      rcases Nat.mod_two_eq_zero_or_one q with a | a <;> rcases Nat.mod_two_eq_zero_or_one X with b | b <;> rw [a, b] at h2 <;> simp at h2 <;> omega
    rw [Nat.testBit_succ, Nat.testBit_succ, Nat.testBit_succ, e]
    exact sub_bit i (q / 2) (X / 2) h1
theorem bitsL_nd (c : Nat) : (bitsL c).Nodup := by unfold bitsL; exact List.nodup_range.filter _
theorem bitsL_up (c : Nat) : (bitsL c).Pairwise (· < ·) := by unfold bitsL; exact List.pairwise_lt_range.filter _
theorem mem_bits {x l : Nat} (h : x < 2 ^ 24) : l ∈ bitsL x ↔ x.testBit l = true := by
  unfold bitsL
  rw [List.mem_filter, List.mem_range]
  refine ⟨fun z => z.2, fun z => ⟨?_, z⟩⟩
  exact (Nat.pow_lt_pow_iff_right (by decide)).mp (Nat.lt_of_le_of_lt (Nat.ge_two_pow_of_testBit z) h)
theorem bits_split {q X : Nat} (h : Msk q X) (hX : X < 2 ^ 24) : (bitsL q ++ bitsL (X - q)).Perm (bitsL X) := by
  have hq : q < 2 ^ 24 := Nat.lt_of_le_of_lt h.le hX
  have hd : X - q < 2 ^ 24 := by omega
  have hsub : ∀ i, q.testBit i = true → X.testBit i = true := fun i hi => by
    have e := congrArg (fun z => z.testBit i) h
    simp only [Nat.testBit_and] at e
    rw [hi] at e
    simpa using e
  refine (List.perm_ext_iff_of_nodup ?_ (bitsL_nd X)).mpr fun i => ?_
  · refine List.nodup_append.mpr ⟨bitsL_nd q, bitsL_nd _, fun a ha b hb e => ?_⟩
    subst e
    have h1 := (mem_bits hq).mp ha
    have h2 := (mem_bits hd).mp hb
    rw [sub_bit a q X h, h1] at h2
    simp at h2
  · rw [List.mem_append, mem_bits hq, mem_bits hd, mem_bits hX, sub_bit i q X h]
    cases h1 : q.testBit i with
    | true => simp [hsub i h1]
    | false => simp
theorem bits_ne {q : Nat} (h0 : 0 < q) (hq : q < 2 ^ 24) : bitsL q ≠ [] := fun z => by
  obtain ⟨k, m, e⟩ := odd_part q h0
  have : k ∈ bitsL q := (mem_bits hq).mpr (by rw [Nat.testBit_eq_decide_div_mod_eq, e, Nat.mul_div_cancel_left _ (Nat.two_pow_pos k)]; exact decide_eq_true (by omega))
  rw [z] at this
  simp at this
theorem bits_all : ∀ n : Nat, n ≤ 8 → bitsL (2 ^ n - 1) = List.range n := by decide
inductive Ch (bs : List (Int × Nat)) : Nat → List Nat → Prop where
  | nil : Ch bs 0 []
  | cons {x : Nat} {v : Int × Nat} {ps : List Nat} : 0 < x → bs[x]? = some v → Ch bs (x - v.2) ps → Ch bs x (v.2 :: ps)
theorem low_in {x : Nat} (h0 : 0 < x) (hx : x < 2 ^ 24) : ∃ k, lowb x = 2 ^ k ∧ k ∈ bitsL x ∧ ∀ i ∈ bitsL x, k ≤ i := by
  obtain ⟨k, m, rfl⟩ := odd_part x h0
  refine ⟨k, lowb_eq k m, (mem_bits hx).mpr ?_, fun i hi => ?_⟩
  · rw [Nat.testBit_eq_decide_div_mod_eq, Nat.mul_div_cancel_left _ (Nat.two_pow_pos k)]
    exact decide_eq_true (by omega)
  · have hb := (mem_bits hx).mp hi
    rcases Nat.lt_or_ge i k with c | c
    · exfalso
      rw [Nat.testBit_eq_decide_div_mod_eq] at hb
      have hb := of_decide_eq_true hb
      have e : 2 ^ k * (2 * m + 1) = 2 ^ i * (2 * (2 ^ (k - i - 1) * (2 * m + 1))) := by
        rw [← Nat.mul_assoc 2, ← Nat.pow_succ', show (k - i - 1).succ = k - i by omega, ← Nat.mul_assoc, ← Nat.pow_add, show i + (k - i) = k by omega]
      rw [e, Nat.mul_div_cancel_left _ (Nat.two_pow_pos i)] at hb
      omega
    · exact c
theorem bit_low {p k : Nat} (h : p &&& 2 ^ k = 2 ^ k) : p.testBit k = true := by
  have e := congrArg (fun z => z.testBit k) h
  simp only [Nat.testBit_and, Nat.testBit_two_pow_self, Bool.and_true] at e
  exact e
theorem low_bit {p k : Nat} (h : p.testBit k = true) : p &&& 2 ^ k = 2 ^ k := by
  refine Nat.eq_of_testBit_eq fun i => ?_
  rw [Nat.testBit_and, Nat.testBit_two_pow]
  by_cases e : k = i
  · subst e; simp [h]
  · simp [e]
theorem head_le {l : List Nat} {k : Nat} (h : l.Pairwise (· < ·)) (hk : k ∈ l) : l.headD 0 ≤ k ∧ l.headD 0 ∈ l := by
  cases l with
  | nil => simp at hk
  | cons a r =>
    refine ⟨?_, List.mem_cons_self⟩
    show a ≤ k
    rcases List.mem_cons.mp hk with z | z
    · omega
    · exact Nat.le_of_lt ((List.pairwise_cons.mp h).1 k z)
structure ChOk (pr : Nat → Int) (x : Nat) (ps : List Nat) (b : Int) : Prop where
  sum : b = (ps.map pr).sum
  prm : (ps.flatMap bitsL).Perm (bitsL x)
  pos : ∀ p ∈ ps, 0 < p ∧ p ≤ x
  up : (ps.map fun p => (bitsL p).headD 0).Pairwise (· < ·)
  low : ∀ p ∈ ps, (bitsL p).headD 0 ∈ bitsL x
theorem ch_ok {pr : Nat → Int} {bs : List (Int × Nat)} (ho : Opt pr bs) (hl : bs.length ≤ 2 ^ 24) {x : Nat} {ps : List Nat} (h : Ch bs x ps) : x < bs.length → ChOk pr x ps (bs.getD x (0, 0)).1 := by
  induction h with
  | nil =>
    intro hx
    have h0 : bs[0]? = some bs[0] := List.getElem?_eq_getElem hx
    have := ho.zero _ h0
    refine ⟨?_, .refl _, by simp, .nil, by simp⟩
    rw [List.getD_eq_getElem?_getD, h0, this]
    rfl
  | cons hx0 hv hc ih =>
    rename_i x v ps
    intro hx
    have hx24 : x < 2 ^ 24 := Nat.lt_of_lt_of_le hx hl
    obtain ⟨hfp, he⟩ := ho.hit x v hx0 hv
    have hle := hfp.le
    have hlp := low_pos hx0
    have i := ih (by omega)
    have hmsk : Msk v.2 x := sub_iff.mp hfp.2
    have hv24 : v.2 < 2 ^ 24 := by omega
    have hd24 : x - v.2 < 2 ^ 24 := by omega
    obtain ⟨k, hk1, hk2, hk3⟩ := low_in hx0 hx24
    have hkv : k ∈ bitsL v.2 := (mem_bits hv24).mpr (bit_low (by rw [← hk1]; exact hfp.1))
    have hsplit := bits_split hmsk hx24
    have hhd := head_le (bitsL_up v.2) hkv
    have hke : (bitsL v.2).headD 0 = k := by
      have h1 : (bitsL v.2).headD 0 ∈ bitsL x := hsplit.subset (List.mem_append_left _ hhd.2)
      have := hk3 _ h1
      omega
    refine ⟨?_, ?_, fun p hp => ?_, ?_, fun p hp => ?_⟩
    · rw [List.getD_eq_getElem?_getD, hv, List.map_cons, List.sum_cons, ← i.sum]
      exact he
    · rw [List.flatMap_cons]
      exact (i.prm.append_left _).trans hsplit
    · rcases List.mem_cons.mp hp with z | z
      · rw [z]; omega
      · have := i.pos p z
        omega
    · rw [List.map_cons, List.pairwise_cons]
      refine ⟨fun y hy => ?_, i.up⟩
      obtain ⟨p, hp, rfl⟩ := List.mem_map.mp hy
      have h1 := i.low p hp
      have h2 : (bitsL p).headD 0 ∈ bitsL x := hsplit.subset (List.mem_append_right _ h1)
      have h3 := hk3 _ h2
      rw [hke]
      have h4 : (bitsL p).headD 0 ≠ k := fun z => by
        rw [z] at h1
        have b1 := (mem_bits hd24).mp h1
        have b2 := (mem_bits hv24).mp hkv
        rw [sub_bit k v.2 x hmsk, b2] at b1
        simp at b1
      omega
    · rcases List.mem_cons.mp hp with z | z
      · rw [z, hke]; exact hk2
      · exact hsplit.subset (List.mem_append_right _ (i.low p z))
theorem sum_perm {l m : List Int} (h : l.Perm m) : l.sum = m.sum := by
  induction h with
  | nil => rfl
  | cons _ _ ih => rw [List.sum_cons, List.sum_cons, ih]
  | swap a b l => simp only [List.sum_cons]; omega
  | trans _ _ h1 h2 => exact h1.trans h2
theorem best_least {pr : Nat → Int} {bs : List (Int × Nat)} (ho : Opt pr bs) (hl : bs.length ≤ 2 ^ 24) : ∀ (x : Nat) (qs : List Nat), x < bs.length → (∀ q ∈ qs, 0 < q ∧ q < 2 ^ 24) → (qs.flatMap bitsL).Perm (bitsL x) → (bs.getD x (0, 0)).1 ≤ (qs.map pr).sum := by
  intro x
  induction x using Nat.strongRecOn with
  | ind x ih =>
    intro qs hx hq hp
    have hx24 : x < 2 ^ 24 := Nat.lt_of_lt_of_le hx hl
    by_cases hx0 : 0 < x
    · obtain ⟨k, hk1, hk2, hk3⟩ := low_in hx0 hx24
      obtain ⟨q0, hq0, hkq⟩ := List.mem_flatMap.mp (hp.symm.subset hk2)
      have hq24 := (hq q0 hq0).2
      obtain ⟨qs', hqs⟩ : ∃ qs', qs.Perm (q0 :: qs') := ⟨qs.erase q0, List.perm_cons_erase hq0⟩
      have hp2 : (bitsL q0 ++ qs'.flatMap bitsL).Perm (bitsL x) := by
        have h1 : (qs.flatMap bitsL).Perm ((q0 :: qs').flatMap bitsL) := hqs.flatMap_right _
        rw [List.flatMap_cons] at h1
        exact h1.symm.trans hp
      have hmsk : Msk q0 x := by
        unfold Msk
        refine Nat.eq_of_testBit_eq fun i => ?_
        rw [Nat.testBit_and]
        cases h1 : q0.testBit i with
        | false => rfl
        | true =>
          have : i ∈ bitsL x := hp2.subset (List.mem_append_left _ ((mem_bits hq24).mpr h1))
          rw [(mem_bits hx24).mp this]
          rfl
      have hfp : FP x q0 := ⟨by rw [hk1]; exact low_bit ((mem_bits hq24).mp hkq), sub_iff.mpr hmsk⟩
      have hle := hfp.le
      have hlp := low_pos hx0
      have hsplit := bits_split hmsk hx24
      have hp3 : (qs'.flatMap bitsL).Perm (bitsL (x - q0)) := (List.perm_append_left_iff (bitsL q0)).mp (hp2.trans hsplit.symm)
      have hx' : bs[x]? = some bs[x] := List.getElem?_eq_getElem hx
      have h1 := ho.low x _ hx0 hx' q0 hfp
      have h2 := ih (x - q0) (by omega) qs' (by omega) (fun q hq' => hq q (hqs.symm.subset (List.mem_cons_of_mem _ hq'))) hp3
      have h3 := sum_perm (hqs.map pr)
      rw [List.map_cons, List.sum_cons] at h3
      rw [List.getD_eq_getElem?_getD, hx', h3]
      show bs[x].1 ≤ _
      omega
    · have e : x = 0 := by omega
      subst e
      have hqe : qs = [] := by
        cases qs with
        | nil => rfl
        | cons q r =>
          exfalso
          have h1 := hq q List.mem_cons_self
          have h2 := bits_ne h1.1 h1.2
          have h3 := hp.length_eq
          rw [List.flatMap_cons, List.length_append] at h3
          have h4 : (bitsL 0).length = 0 := by decide
          have := List.length_pos_iff.mpr h2
          omega
      subst hqe
      have h0 : bs[0]? = some bs[0] := List.getElem?_eq_getElem hx
      have := ho.zero _ h0
      rw [List.getD_eq_getElem?_getD, h0, this]
      exact Int.le_refl _
theorem mask_of : ∀ (b : Nat) (ks : List Nat), b ≤ 24 → ks.Pairwise (· < ·) → (∀ k ∈ ks, k < b) → ∃ m, m < 2 ^ b ∧ bitsL m = ks
  | 0, ks, _, _, h => by
    cases ks with
    | nil => exact ⟨0, by decide, by decide⟩
    | cons a r => exact absurd (h a List.mem_cons_self) (by omega)
  | b + 1, ks, hb, hu, h => by
    by_cases hm : b ∈ ks
    · obtain ⟨l, r, e⟩ := List.append_of_mem hm
      subst e
      have hu2 := List.pairwise_append.mp hu
      have hr : r = [] := by
        cases r with
        | nil => rfl
        | cons c s =>
          exfalso
          have h1 := (List.pairwise_cons.mp hu2.2.1).1 c List.mem_cons_self
          have h2 := h c (List.mem_append_right _ (List.mem_cons_of_mem _ List.mem_cons_self))
          omega
      subst hr
      obtain ⟨m, h1, h2⟩ := mask_of b l (by omega) hu2.1 fun k hk => hu2.2.2 k hk b List.mem_cons_self
      exact ⟨2 ^ b + m, by rw [Nat.pow_succ]; omega, by rw [bitsL_add h1 (by omega), h2]⟩
    · obtain ⟨m, h1, h2⟩ := mask_of b ks (by omega) hu fun k hk => by
        have h1 := h k hk
        have h2 : k ≠ b := fun z => hm (by rw [← z]; exact hk)
        omega
      exact ⟨m, by rw [Nat.pow_succ]; omega, h2⟩
def toI (ks : List Nat) : List Int := ks.map fun (k : Nat) => (k : Int)
theorem natsV_int (ks : List Nat) : natsV ks = (toI ks).map V.int := by unfold natsV toI; rw [List.map_map]; rfl
theorem toI_len (ks : List Nat) : (toI ks).length = ks.length := by unfold toI; simp
theorem toI_up {ks : List Nat} (h : ks.Pairwise (· ≤ ·)) : (toI ks).Pairwise (· ≤ ·) := by
  unfold toI
  rw [List.pairwise_map]
  exact h.imp fun e => Int.ofNat_le.mpr e
def heads (kss : List (List Nat)) : List Nat := kss.map fun ks => ks.headD 0
structure CutP (kss : List (List Nat)) (n : Nat) : Prop where
  ne : ∀ ks ∈ kss, ks ≠ []
  up : ∀ ks ∈ kss, ks.Pairwise (· ≤ ·)
  len : ∀ ks ∈ kss, ks.length ≤ 24
  hd : (heads kss).Pairwise (· ≤ ·)
  all : kss.flatten.Perm (List.range n)
  few : kss.length ≤ 24
theorem flat_le {kss : List (List Nat)} {n i : Nat} (h : CutP kss n) : ((kss.take i).flatten).length ≤ n := by
  have e : kss.flatten = (kss.take i).flatten ++ (kss.drop i).flatten := by rw [← List.flatten_append, List.take_append_drop]
  have h1 := h.all.length_eq
  rw [e, List.length_append, List.length_range] at h1
  omega
theorem toI_perm {a b : List Nat} (h : a.Perm b) : (toI a).Perm (toI b) := by unfold toI; exact h.map _
def spIsCut : Sp := fun vs H Q _ => ∃ (p : Addr) (ws : List V) (kss : List (List Nat)) (n : Nat), vs = [.ref p, .int (n : Int)] ∧ H p = some (.tup ws) ∧ Paired (PAt H) ws kss ∧ CutP kss n ∧ n ≤ 24 ∧ ∀ H', Same H H' → Q (.bl true) H'
theorem ok_is_cut (T : Txt K mg) : L2.Cl P w K mg base 2 "_law_is_cut" ["_law_found", "_law_many"] spIsCut := by
  have C_law_whole := ok_whole (P := P) (w := w) (base := base) T
  refine Cl.of T.d_law_is_cut sc_law_is_cut (fun vs H Q E h => ?_) (fun _ _ _ _ _ _ us hl => match us, hl with | [_, _], _ => rfl) (fun f cdv A outer s H vs Q E hr h => ?_)
  · obtain ⟨p, ws, kss, n, rfl, _⟩ := h
    rfl
  · obtain ⟨p, ws, kss, n, rfl, hp, hws, hok, hn, q⟩ := h
    have hu0 := Nat.lt_of_succ_lt (hu_of hr)
    have hwl : ws.length = kss.length := Paired.length hws
    have hfew := hok.few
    refine ⟨_, (pss_cons (ps_if (pt_not (pt_val (pe_callB call_isinst (by rfl) T.n_isinstance PyProof.Rows.boot_isinstance (pa_cons (pv 0) (pa_cons (pe_bltn (v := .ty "tuple") (by rfl) T.n_tuple boot_tuple rfl) pa_nil)))))
        (pss_one (ps_ret pe_bl)) pss_nil)
      (pss_cons (ps_set (i := 2) sc_law_is_cut.nd rfl (Or.inl rfl) (pe_lst pa_nil))
      (pss_cons (ps_set (i := 3) sc_law_is_cut.nd rfl (Or.inl rfl) (pe_lst pa_nil))
      (pss_cons (ps_for PassesOwn.never rfl (pi_tup (pv 0)) (pg_name (i := 4) sc_law_is_cut.nd rfl (Or.inl rfl))
        (pss_cons (ps_if (PW.pt (pw_or (pt_not (pt_val (pe_callB call_isinst (by rfl) T.n_isinstance PyProof.Rows.boot_isinstance (pa_cons (pv 4) (pa_cons (pe_bltn (v := .ty "tuple") (by rfl) T.n_tuple boot_tuple rfl) pa_nil))))) (pw_or1 (pt_cmpR (op_eqT_nil hu0) (pv 4) (pe_tup pa_nil) (nomark _)))))
          (pss_one (ps_ret pe_bl)) pss_nil)
        (pss_cons (ps_for PassesOwn.never rfl (pi_tup (pv 4)) (pg_name (i := 5) sc_law_is_cut.nd rfl (Or.inl rfl))
          (pss_one (ps_if (pt_not (pt_val (pe_fn C_law_whole hr (by rfl) (pa_cons (pv 5) pa_nil))))
            (pss_one (ps_ret pe_bl)) pss_nil)))
        (pss_cons (ps_if (pt_cmpR (op_neL_same hu0) (pe_callTy call_list_of (by rfl) T.n_list boot_list (pa_cons (pv 4) pa_nil)) (pe_callB call_sortedT (by rfl) T.n_sorted boot_sorted (pa_cons (pv 4) pa_nil)) (nomark _))
          (pss_one (ps_ret pe_bl)) pss_nil)
        (pss_cons (ps_expr (pe_bm PySem.F.plainAttrs_list PySem.F.slot_list_extend PySem.F.type_list_extend mt_extendT (pv 2) (pa_cons (pv 4) pa_nil)))
        (pss_one (ps_expr (pe_bm PySem.F.plainAttrs_list PySem.F.slot_list_append PySem.F.type_list_append mt_append (pv 3) (pa_cons (pe_ix ix_tup (pv 4) pe_int (fun _ _ => rfl)) pa_nil)))))))))
      (pss_one (ps_ret (pe_and (pe_cmpR (op_eqL_same hu0) (pv 3) (pe_callB call_sortedP (by rfl) T.n_sorted boot_sorted (pa_cons (pv 3) pa_nil)) (nomark _)) (pe_one (pe_cmpR (op_eqL_same hu0) (pe_callB call_sortedP (by rfl) T.n_sorted boot_sorted (pa_cons (pv 2) pa_nil)) (pe_lrng rfl (pv 1) (by rfl) T.n_list (by rfl) T.n_range) (nomark _)))))))))), ?_⟩
    refine ⟨_, rfl, _, _, _, _, rfl, .tup hp, kit_same _ _, _, rfl, iteF ?_⟩
    refine ⟨(by show 0 ≤ sizeLine; decide), fun N gN => ?_⟩
    have s1 : Same H (upd H N (.lst [])) := (Same.refl H).new gN
    have hN1 : upd H N (.lst []) N = some (.lst []) := upd_same
    generalize upd H N (.lst []) = H1 at s1 hN1 ⊢
    refine ⟨(by show 0 ≤ sizeLine; decide), fun F gF => ?_⟩
    have hNF : N ≠ F := fun z => by rw [z] at hN1; rw [hN1] at gF; cases gF
    have gFH : H F = none := s1.free gF
    have s2 : Same H (upd H1 F (.lst [])) := s1.new gF
    refine ⟨_, rfl, p, rfl, ⟨_, SqT.of (s2 _ _ hp)⟩, for_tup (K := K) (a := p) (xs := ws) (fun i σ H2 => ∃ v4 v5 : Option V, σ = [some (.ref p), some (.int (n : Int)), some (.ref N), some (.ref F), v4, v5] ∧ Same H H2 ∧ H2 N = some (.lst (natsV ((kss.take i).flatten))) ∧ H2 F = some (.lst (natsV (heads (kss.take i)))))
      ⟨none, none, rfl, s2, upd_keep hN1 gF, upd_same⟩ (fun i σ H2 _ ⟨_, _, _, s3, _⟩ => SqT.of (s3 _ _ hp)) ?_ ?_⟩
    · rintro i y σ H2 hy ⟨v4, v5, rfl, s3, hN, hF⟩
      obtain ⟨ks, hks, t, ey, ht⟩ := Paired.get? hws hy
      subst ey
      have hi := (List.getElem?_eq_some_iff.mp hks).1
      have hmem := List.mem_of_getElem? hks
      have hne := hok.ne ks hmem
      have hkl := hok.len ks hmem
      have ht2 := s3 _ _ ht
      refine ⟨_, rfl, _, _, _, _, rfl, .tup ht2, kit_same _ _, _, rfl, iteF ?_⟩
      refine ⟨_, rfl, (by show 0 ≤ sizeLine; decide), fun e ge => ⟨t, e, _, rfl, rfl, SqT.of (upd_keep ht2 ge), SqT.of upd_same, _, rfl, ?_⟩⟩
      have hem : (natsV ks).isEmpty = false := by
        cases ks with
        | nil => exact absurd rfl hne
        | cons a r => rfl
      rw [hem]
      refine iteF ?_
      have s4 : Same H2 (upd H2 e (.tup [])) := (Same.refl H2).new ge
      generalize upd H2 e (.tup []) = H4 at s4 ⊢
      have ht4 := s4 _ _ ht2
      refine ⟨_, rfl, t, rfl, ⟨_, SqT.of ht4⟩, for_tup (K := K) (a := t) (xs := natsV ks) (fun j σ H5 => H5 = H4 ∧ ∃ v5 : Option V, σ = [some (.ref p), some (.int (n : Int)), some (.ref N), some (.ref F), some (.ref t), v5])
        ⟨rfl, _, rfl⟩ (fun j σ H5 _ ⟨e, _⟩ => by rw [e]; exact SqT.of ht4) ?_ ?_⟩
      · rintro j y σ H5 hy5 ⟨rfl, v5', rfl⟩
        obtain ⟨k, hk, rfl⟩ := natsV_get hy5
        exact ⟨_, rfl, _, rfl, _, rfl, iteF ⟨rfl, _, rfl⟩⟩
      · rintro σ H5 ⟨rfl, v5', rfl⟩
        refine ⟨_, rfl, t, _, rfl, .inr (SqT.of ht4), fun l1 g1 => ?_⟩
        have s5 : Same H5 (upd H5 l1 (.lst (natsV ks))) := (Same.refl H5).new g1
        have ht5 : upd H5 l1 (.lst (natsV ks)) t = some (.tup ((toI ks).map V.int)) := by
          rw [← natsV_int ks]
          exact s5 _ _ ht4
        refine ⟨_, rfl, t, toI ks, rfl, SqT.of ht5, by rw [toI_len]; omega, toI_up (hok.up ks hmem), fun l2 g2 => ?_⟩
        have s6 := s5.new (o := .lst ((toI ks).map V.int)) g2
        refine ⟨l1, l2, natsV ks, rfl, rfl, SqL.of (upd_keep upd_same g2), (by rw [natsV_int]; exact SqL.of upd_same), natsV_flat ks, _, rfl, iteF ?_⟩
        have hN6 := s6 _ _ (s4 _ _ hN)
        have hF6 := s6 _ _ (s4 _ _ hF)
        have ht6 := s6 _ _ ht4
        have s36 := (s3.trans s4).trans s6
        generalize upd (upd H5 l1 (.lst (natsV ks))) l2 (.lst ((toI ks).map V.int)) = H6 at hN6 hF6 ht6 s36 ⊢
        have hfl := flat_le (i := i) hok
        refine ⟨_, rfl, .inl ⟨rfl, _, SqL.of hN6⟩, _, rfl, N, t, _, _, rfl, rfl, hN6, SqT.of ht6, Nat.le_of_lt (small1000 (by rw [natsV_len, natsV_len]; omega)), ?_⟩
        have T7 : Tups H6 (upd H6 N (.lst (natsV ((kss.take i).flatten) ++ natsV ks))) := Tups.lst hN6
        have hF7 : upd H6 N (.lst (natsV ((kss.take i).flatten) ++ natsV ks)) F = some (.lst (natsV (heads (kss.take i)))) := by rw [upd_ne hNF.symm]; exact hF6
        have z0 : atI (natsV ks) 0 = some (.int ((ks.headD 0 : Nat) : Int)) := by
          cases ks with
          | nil => exact absurd rfl hne
          | cons a r => exact atI_nat (j := 0) rfl
        have hhl : (heads (kss.take i)).length ≤ 24 := by
          unfold heads
          rw [List.length_map, List.length_take]
          omega
        refine ⟨_, rfl, .inl ⟨rfl, _, SqL.of hF7⟩, _, rfl, t, _, _, _, rfl, rfl, SqT.of (T7 _ _ ht6), z0, F, _, _, rfl, rfl, hF7, small1000 (by rw [natsV_len]; omega), ?_⟩
        refine ⟨_, _, rfl, (s36.put gN).put gFH, ?_, ?_⟩
        · rw [upd_ne hNF, upd_same, take_succ_get hks, List.flatten_append]
          unfold natsV
          simp
        · rw [upd_same, take_succ_get hks]
          unfold heads
          rw [List.map_append]
          exact congrArg (fun z => some (HO.lst z)) (natsV_snoc _ _).symm
    · rintro σ H2 ⟨v4, v5, rfl, s3, hN, hF⟩
      rw [hwl, List.take_length] at hN hF
      have hF' := hF
      rw [natsV_int] at hF'
      have hhl : (heads kss).length ≤ 24 := by unfold heads; rw [List.length_map]; exact hfew
      refine ⟨_, rfl, _, rfl, F, toI (heads kss), toI (heads kss), rfl, SqL.of hF', by rw [toI_len]; omega, .refl _, toI_up hok.hd, fun l1 g1 => ?_⟩
      have s4 : Same H2 (upd H2 l1 (.lst ((toI (heads kss)).map V.int))) := (Same.refl H2).new g1
      refine ⟨F, l1, (toI (heads kss)).map V.int, rfl, rfl, SqL.of (s4 _ _ hF'), SqL.of upd_same, (by rw [← natsV_int]; exact natsV_flat _), _, rfl, iteT ?_⟩
      have hN' := s4 _ _ hN
      rw [natsV_int] at hN'
      generalize upd H2 l1 (.lst ((toI (heads kss)).map V.int)) = H4 at s4 hN' ⊢
      have hfl : kss.flatten.length = n := by rw [hok.all.length_eq, List.length_range]
      refine ⟨_, rfl, N, toI kss.flatten, toI (List.range n), rfl, SqL.of hN', by rw [toI_len]; omega, toI_perm hok.all, toI_up (List.pairwise_le_range), fun l2 g2 => ?_⟩
      refine ⟨_, rfl, n, rfl, by omega, fun l3 g3 => ?_⟩
      refine ⟨l2, l3, natsV (List.range n), rfl, rfl, (by rw [natsV_int]; exact SqL.of (upd_keep upd_same g3)), SqL.of upd_same, natsV_flat _, ?_⟩
      exact q _ (((s3.trans s4).new g2).new g3)
def spLeast : Sp := fun vs H Q _ => ∃ (l : Addr) (us : List V) (bs : List (Int × Nat)) (pr : Nat → Int), vs = [.ref l] ∧ H l = some (.lst us) ∧ Paired (PrB H) us bs ∧ Opt pr bs ∧ 0 < bs.length ∧ bs.length ≤ 256 ∧ ∀ (p : Addr) (ws : List V) (ps : List Nat) (H' : Hp), Same H H' → H' p = some (.tup ws) → Paired (PAt H') ws (ps.map bitsL) → Ch bs (bs.length - 1) ps → Q (.ref p) H'
theorem ok_least (T : Txt K mg) : L2.Cl P w K mg base 2 "least_cut" ["best"] spLeast := by
  have C_numbers_in := ok_in2 (P := P) (w := w) (base := base) T
  refine Cl.of T.d_least_cut sc_least_cut (fun vs H Q E h => ?_) (fun _ _ _ _ _ _ us hl => match us, hl with | [_], _ => rfl) (fun f cdv A outer s H vs Q E hr h => ?_)
  · obtain ⟨l, us, bs, pr, rfl, _⟩ := h
    rfl
  · obtain ⟨l, us, bs, pr, rfl, hl, hus, hopt, hpos, h256, q⟩ := h
    have hul : us.length = bs.length := Paired.length hus
    refine ⟨_, (pss_cons (ps_set (i := 1) sc_least_cut.nd rfl (Or.inl rfl) (pe_lst pa_nil))
      (pss_cons (ps_set (i := 2) sc_least_cut.nd rfl (Or.inl rfl) (pe_op op_sub (pe_callB call_len_seq (by rfl) T.n_len PySem.boot_len (pa_cons (pv 0) pa_nil)) pe_int))
      (pss_cons (ps_while PassesOwn.never (pt_cmpR op_gt (pv 2) pe_int (nomark _))
        (pss_cons (ps_set (i := 3) sc_least_cut.nd rfl (Or.inl rfl) (pe_ix ix_tup (pe_ix ix_list (pv 0) (pv 2) (fun _ _ => rfl)) pe_int (fun _ _ => rfl)))
        (pss_cons (ps_expr (pe_bm PySem.F.plainAttrs_list PySem.F.slot_list_append PySem.F.type_list_append mt_append (pv 1) (pa_cons (pe_fn C_numbers_in hr (by rfl) (pa_cons (pv 3) pa_nil)) pa_nil)))
        (pss_one (ps_aug (i := 2) sc_least_cut.nd rfl (Or.inl rfl) (pv 3) ip_sub)))))
      (pss_one (ps_ret (pe_callTy call_tuple_of (by rfl) T.n_tuple boot_tuple (pa_cons (pv 1) pa_nil))))))), ?_⟩
    refine ⟨(by show 0 ≤ sizeLine; decide), fun C gC => ?_⟩
    have s1 : Same H (upd H C (.lst [])) := (Same.refl H).new gC
    have hC1 : upd H C (.lst []) C = some (.lst []) := upd_same
    generalize upd H C (.lst []) = H1 at s1 hC1 ⊢
    refine ⟨_, rfl, l, _, rfl, .inl (SqL.of (s1 _ _ hl)), _, _, rfl, rfl, ?_⟩
    show gName 2 (V.int ((us.length : Int) - 1)) _ _ _
    rw [show (us.length : Int) - 1 = ((bs.length - 1 : Nat) : Int) by omega]
    refine to_g ?_
    refine ⟨fun m σ H2 => ∃ (done : List Nat) (ws : List V) (v3 : Option V), σ = [some (.ref l), some (.ref C), some (.int (m : Int)), v3] ∧ Same H H2 ∧ H2 C = some (.lst ws) ∧ Paired (PAt H2) ws (done.map bitsL) ∧ m < bs.length ∧ done.length + m < bs.length ∧ ∀ rest, Ch bs m rest → Ch bs (bs.length - 1) (done ++ rest), ⟨bs.length - 1, [], [], none, rfl, s1, hC1, .nil, by omega, by simp; omega, fun rest h => h⟩, ?_⟩
    rintro m σ H2 ⟨done, ws, v3, rfl, s2, hC2, hws, hm, hdl, hch⟩
    have hwl : ws.length = done.length := by rw [Paired.length hws, List.length_map]
    refine ⟨_, rfl, _, _, rfl, rfl, _, rfl, ite2 (fun hc => ?_) (fun hc => ?_)⟩
    · have hm0 : 0 < m := by have := of_decide_eq_true hc; omega
      have hv : bs[m]? = some bs[m] := List.getElem?_eq_getElem hm
      obtain ⟨u, hu, tb, eb, htb⟩ := Paired.get?' hus hv
      subst eb
      obtain ⟨hfp, _⟩ := hopt.hit m _ hm0 hv
      have hle := hfp.le
      have hlp := low_pos hm0
      generalize bs[m] = v at hv htb hfp hle
      have atm : atI us (m : Int) = some (.ref tb) := atI_nat hu
      have z1 : atI [V.int v.1, V.int (v.2 : Int)] 1 = some (.int (v.2 : Int)) := atI_nat (j := 1) rfl
      refine ⟨fun σ' H' => ∃ (done : List Nat) (ws : List V) (v3 : Option V), σ' = [some (.ref l), some (.ref C), some (.int ((m - v.2 : Nat) : Int)), v3] ∧ Same H H' ∧ H' C = some (.lst ws) ∧ Paired (PAt H') ws (done.map bitsL) ∧ m - v.2 < bs.length ∧ done.length + (m - v.2) < bs.length ∧ ∀ rest, Ch bs (m - v.2) rest → Ch bs (bs.length - 1) (done ++ rest), fun σ' H' hN => ⟨_, by omega, hN⟩, ?_⟩
      refine ⟨_, rfl, _, rfl, l, _, _, _, rfl, rfl, SqL.of (s2 _ _ hl), atm, tb, _, _, _, rfl, rfl, SqT.of (s2 _ _ htb), z1, ?_⟩
      refine ⟨_, rfl, .inl ⟨rfl, _, SqL.of hC2⟩, _, rfl, v.2, rfl, Nat.lt_of_lt_of_le (show v.2 < 256 by omega) (by decide), fun p H3 s3 hp => ?_⟩
      have hC3 := s3 _ _ hC2
      refine ⟨C, _, _, rfl, rfl, hC3, small1000 (by omega), ?_⟩
      have T4 := Tups.lst (ys := ws ++ [.ref p]) hC3
      refine ⟨_, rfl, _, rfl, _, _, rfl, rfl, done ++ [v.2], ws ++ [.ref p], _, (by rw [show ((m - v.2 : Nat) : Int) = (m : Int) - (v.2 : Int) by omega]; rfl), (s2.trans s3).put gC, upd_same, ?_, by omega, by rw [List.length_append, List.length_singleton]; omega, fun rest h => ?_⟩
      · rw [List.map_append]
        exact Paired.snoc (Paired.mapP hws fun _ _ z => z.mono (s3.tups.trans T4)) ⟨p, rfl, T4 _ _ hp⟩
      · rw [List.append_assoc]
        exact hch _ (.cons hm0 hv h)
    · have hm0 : m = 0 := by
        have : ¬ ((0 : Int) < (m : Int)) := fun z => hc (decide_eq_true z)
        omega
      subst hm0
      have hfin := hch [] .nil
      rw [List.append_nil] at hfin
      refine ⟨_, rfl, C, _, rfl, .inl ⟨SqL.of hC2, fun p gp => ?_⟩⟩
      have s3 : Same H2 (upd H2 p (.tup ws)) := (Same.refl H2).new gp
      exact q p ws done _ (s2.trans s3) upd_same (Paired.mapP hws fun _ _ z => z.mono s3.tups) hfin
def spCheap : Sp := fun vs H Q _ => ∃ (a : Addr) (us : List V) (gs : List Gp) (t : Int), vs = [.ref a, .int t] ∧ H a = some (.tup us) ∧ Paired (GAt H) us gs ∧ GsOk gs ∧ gs.length ≤ 8 ∧ ∀ (p : Addr) (ws : List V) (ps : List Nat) (bs : List (Int × Nat)) (H' : Hp), Same H H' → H' p = some (.tup ws) → Paired (PAt H') ws (ps.map bitsL) → Ch bs (2 ^ gs.length - 1) ps → Opt (prc gs t) bs → bs.length = 2 ^ gs.length → Q (.ref p) H'
theorem ok_cheap (T : Txt K mg) : L2.Cl P w K mg base 4 "cheapest" ["groups", "toll"] spCheap := by
  have C_best_packs := ok_best (P := P) (w := w) (base := base) T
  have C_least_cut := ok_least (P := P) (w := w) (base := base) T
  refine Cl.of T.d_cheapest sc_cheapest (fun vs H Q E h => ?_) (fun _ _ _ _ _ _ us hl => match us, hl with | [_, _], _ => rfl) (fun f cdv A outer s H vs Q E hr h => ?_)
  · obtain ⟨a, us, gs, t, rfl, _⟩ := h
    rfl
  · obtain ⟨a, us, gs, t, rfl, ha, hus, hok, hg8, q⟩ := h
    have hul : us.length = gs.length := Paired.length hus
    have h256 : 2 ^ gs.length ≤ 256 := two_le hg8
    have hpos : 0 < 2 ^ gs.length := Nat.two_pow_pos _
    refine ⟨_, (pss_cons (ps_if (pt_cmpR op_le (pe_callB call_len_seq (by rfl) T.n_len PySem.boot_len (pa_cons (pv 0) pa_nil)) (pe_globS T.g_MOST_GROUPS (by rfl)) (nomark _))
        (pss_one (ps_ret (pe_fn C_least_cut hr (by rfl) (pa_cons (pe_fn C_best_packs hr (by rfl) (pa_cons (pv 0) (pa_cons (pv 1) pa_nil))) pa_nil)))) pss_nil)
      pss_never), ?_⟩
    refine ⟨_, rfl, a, _, rfl, .inr (SqT.of ha), _, _, rfl, rfl, _, rfl, ite2 (fun _ => ?_) (fun hh => absurd (decide_eq_true (by omega)) hh)⟩
    refine ⟨_, rfl, _, rfl, a, us, gs, t, rfl, ha, hus, hok, hg8, fun l vs bs H1 s1 hl hvs hopt hbl => ?_⟩
    refine ⟨l, vs, bs, prc gs t, rfl, hl, hvs, hopt, by omega, by omega, fun p ws ps H2 s2 hp hws hch => ?_⟩
    rw [hbl] at hch
    exact q p ws ps bs H2 (s1.trans s2) hp hws hch hopt hbl
structure Dr (kss : List (List Nat)) (n : Nat) : Prop where
  ne : ∀ ks ∈ kss, ks ≠ []
  up : ∀ ks ∈ kss, ks.Pairwise (· < ·)
  lt : ∀ ks ∈ kss, ∀ k ∈ ks, k < n
  prm : kss.flatten.Perm (List.range n)
theorem Dr.new {kss : List (List Nat)} {n : Nat} (h : Dr kss n) : Dr (kss ++ [[n]]) (n + 1) := by
  refine ⟨fun ks hk => ?_, fun ks hk => ?_, fun ks hk k hkk => ?_, ?_⟩
  · rcases List.mem_append.mp hk with z | z
    · exact h.ne ks z
    · rw [List.mem_singleton.mp z]; simp
  · rcases List.mem_append.mp hk with z | z
    · exact h.up ks z
    · rw [List.mem_singleton.mp z]; exact List.pairwise_singleton _ _
  · rcases List.mem_append.mp hk with z | z
    · have := h.lt ks z k hkk
      omega
    · rw [List.mem_singleton.mp z] at hkk
      rw [List.mem_singleton.mp hkk]
      omega
  · rw [List.flatten_append, List.flatten_singleton, List.range_succ]
    exact h.prm.append_right _
theorem Dr.more {kl kr : List (List Nat)} {ks : List Nat} {n : Nat} (h : Dr (kl ++ ks :: kr) n) : Dr (kl ++ (ks ++ [n]) :: kr) (n + 1) := by
  have hmem : ∀ x, x ∈ kl ++ (ks ++ [n]) :: kr → x = ks ++ [n] ∨ x ∈ kl ++ ks :: kr := fun x hx => by
    rcases List.mem_append.mp hx with z | z
    · exact .inr (List.mem_append_left _ z)
    · rcases List.mem_cons.mp z with y | y
      · exact .inl y
      · exact .inr (List.mem_append_right _ (List.mem_cons_of_mem _ y))
  have hks : ks ∈ kl ++ ks :: kr := List.mem_append_right _ List.mem_cons_self
  refine ⟨fun x hx => ?_, fun x hx => ?_, fun x hx k hk => ?_, ?_⟩
  · rcases hmem x hx with z | z
    · rw [z]; simp
    · exact h.ne x z
  · rcases hmem x hx with z | z
    · rw [z, List.pairwise_append]
      refine ⟨h.up ks hks, List.pairwise_singleton _ _, fun a ha b hb => ?_⟩
      rw [List.mem_singleton.mp hb]
      exact h.lt ks hks a ha
    · exact h.up x z
  · rcases hmem x hx with z | z
    · rw [z] at hk
      rcases List.mem_append.mp hk with y | y
      · have := h.lt ks hks k y
        omega
      · rw [List.mem_singleton.mp y]; omega
    · have := h.lt x z k hk
      omega
  · have h1 := h.prm
    rw [List.flatten_append, List.flatten_cons] at h1 ⊢
    rw [List.range_succ]
    refine List.Perm.trans ?_ (h1.append_right [n])
    rw [List.append_assoc, List.append_assoc, List.append_assoc]
    refine List.Perm.append_left _ (List.Perm.append_left _ ?_)
    exact List.perm_append_comm
theorem masks_of {kss : List (List Nat)} {n : Nat} (hn : n ≤ 24) (h : Dr kss n) : ∃ qs : List Nat, qs.map bitsL = kss ∧ ∀ q ∈ qs, 0 < q ∧ q < 2 ^ 24 := by
  have hall : ∀ ks ∈ kss, ∃ q, bitsL q = ks ∧ 0 < q ∧ q < 2 ^ 24 := fun ks hk => by
    obtain ⟨m, h1, h2⟩ := mask_of n ks hn (h.up ks hk) (h.lt ks hk)
    refine ⟨m, h2, ?_, Nat.lt_of_lt_of_le h1 (Nat.pow_le_pow_right (by decide) hn)⟩
    rcases Nat.eq_zero_or_pos m with z | z
    · exfalso
      rw [z] at h2
      exact h.ne ks hk (by rw [← h2]; decide)
    · exact z
  clear h
  induction kss with
  | nil => exact ⟨[], rfl, by simp⟩
  | cons ks r ih =>
    obtain ⟨q, h1, h2⟩ := hall ks List.mem_cons_self
    obtain ⟨qs, h3, h4⟩ := ih fun x hx => hall x (List.mem_cons_of_mem _ hx)
    refine ⟨q :: qs, by rw [List.map_cons, h1, h3], fun x hx => ?_⟩
    rcases List.mem_cons.mp hx with z | z
    · rw [z]; exact h2
    · exact h4 x z
theorem totP_masks (gs : List Gp) (t : Int) (qs : List Nat) : totP gs t (qs.map bitsL) = (qs.map (prc gs t)).sum := by
  unfold totP
  rw [List.map_map]
  rfl
theorem flat_masks (qs : List Nat) : (qs.map bitsL).flatten = qs.flatMap bitsL := by rw [List.flatMap_def]
theorem ch_cut {pr : Nat → Int} {n : Nat} {ps : List Nat} {b : Int} (hn : n ≤ 8) (h : ChOk pr (2 ^ n - 1) ps b) : CutP (ps.map bitsL) n := by
  have h2 : 2 ^ n ≤ 256 := two_le hn
  have hp24 : ∀ p ∈ ps, p < 2 ^ 24 := fun p hp => by
    have h1 := (h.pos p hp).2
    have h3 : (256 : Nat) ≤ 2 ^ 24 := by decide
    have h4 := Nat.two_pow_pos n
    omega
  refine ⟨fun ks hk => ?_, fun ks hk => ?_, fun ks hk => ?_, ?_, ?_, ?_⟩
  · obtain ⟨p, hp, rfl⟩ := List.mem_map.mp hk
    exact bits_ne (h.pos p hp).1 (hp24 p hp)
  · obtain ⟨p, hp, rfl⟩ := List.mem_map.mp hk
    exact (bitsL_up p).imp fun e => Nat.le_of_lt e
  · obtain ⟨p, hp, rfl⟩ := List.mem_map.mp hk
    exact bitsL_len (n := 24) (hp24 p hp) (by decide)
  · unfold heads
    rw [List.map_map]
    exact h.up.imp fun e => Nat.le_of_lt e
  · rw [flat_masks, ← bits_all n hn]
    exact h.prm
  · rw [List.length_map]
    have h1 := h.prm.length_eq
    rw [bits_all n hn, List.length_range] at h1
    have h3 : ps.length ≤ (ps.flatMap bitsL).length := by
      have hp := h.pos
      clear h h1
      induction ps with
      | nil => simp
      | cons p r ih =>
        have h5 := List.length_pos_iff.mpr (bits_ne (hp p List.mem_cons_self).1 (hp24 p List.mem_cons_self))
        have h6 := ih (fun x hx => hp24 x (List.mem_cons_of_mem _ hx)) fun x hx => hp x (List.mem_cons_of_mem _ hx)
        rw [List.flatMap_cons, List.length_append, List.length_cons]
        omega
    omega
def puts (k : Nat) : List (List Nat) → List (List (List Nat))
  | [] => []
  | ks :: r => ((ks ++ [k]) :: r) :: (puts k r).map (ks :: ·)
def ext (k : Nat) (kss : List (List Nat)) : List (List (List Nat)) := puts k kss ++ [kss ++ [[k]]]
def cutsM : Nat → List (List (List Nat))
  | 0 => [[]]
  | n + 1 => (cutsM n).flatMap (ext n)
theorem puts_len (k : Nat) : ∀ kss, (puts k kss).length = kss.length
  | [] => rfl
  | _ :: r => by simp [puts, puts_len k r]
theorem puts_get (k : Nat) : ∀ (kl : List (List Nat)) (ks : List Nat) (kr : List (List Nat)), (puts k (kl ++ ks :: kr))[kl.length]? = some (kl ++ (ks ++ [k]) :: kr)
  | [], _, _ => rfl
  | a :: kl, ks, kr => by
    show ((puts k (kl ++ ks :: kr)).map (a :: ·))[kl.length]? = _
    rw [List.getElem?_map, puts_get k kl ks kr]
    rfl
theorem mem_puts {k : Nat} : ∀ {kss x : List (List Nat)}, x ∈ puts k kss → ∃ kl ks kr, kss = kl ++ ks :: kr ∧ x = kl ++ (ks ++ [k]) :: kr
  | [], _, h => by simp [puts] at h
  | a :: r, x, h => by
    rcases List.mem_cons.mp h with z | z
    · exact ⟨[], a, r, rfl, z⟩
    · obtain ⟨y, hy, rfl⟩ := List.mem_map.mp z
      obtain ⟨kl, ks, kr, e1, e2⟩ := mem_puts hy
      exact ⟨a :: kl, ks, kr, by rw [e1]; rfl, by rw [e2]; rfl⟩
theorem cuts_len : ∀ n, n ≤ 6 → (cutsM n).length ≤ 203 := by decide +kernel
theorem cuts_few : ∀ n, ∀ x ∈ cutsM n, x.length ≤ n
  | 0, x, h => by rw [List.mem_singleton.mp h]; simp
  | n + 1, x, h => by
    obtain ⟨y, hy, hx⟩ := List.mem_flatMap.mp h
    have := cuts_few n y hy
    rcases List.mem_append.mp hx with z | z
    · obtain ⟨kl, ks, kr, e1, rfl⟩ := mem_puts z
      rw [e1] at this
      simp at this ⊢
      omega
    · rw [List.mem_singleton.mp z]
      simp
      omega
structure Can (kss : List (List Nat)) (n : Nat) : Prop where
  ne : ∀ ks ∈ kss, ks ≠ []
  up : ∀ ks ∈ kss, ks.Pairwise (· < ·)
  hd : (kss.map fun ks => ks.headD 0).Pairwise (· < ·)
  all : kss.flatten.Perm (List.range n)
theorem up_last {l r : List Nat} {n : Nat} (h : (l ++ n :: r).Pairwise (· < ·)) (hb : ∀ x ∈ l ++ n :: r, x ≤ n) : r = [] := by
  cases r with
  | nil => rfl
  | cons c s =>
    exfalso
    have h1 := (List.pairwise_cons.mp (List.pairwise_append.mp h).2.1).1 c List.mem_cons_self
    have h2 := hb c (List.mem_append_right _ (List.mem_cons_of_mem _ List.mem_cons_self))
    omega
theorem hd_snoc {ks : List Nat} {n : Nat} (h : ks ≠ []) : (ks ++ [n]).headD 0 = ks.headD 0 := by
  cases ks with
  | nil => exact absurd rfl h
  | cons a r => rfl
theorem can_in : ∀ (n : Nat) (kss : List (List Nat)), Can kss n → kss ∈ cutsM n
  | 0, kss, h => by
    cases kss with
    | nil => exact List.mem_singleton.mpr rfl
    | cons ks r =>
      exfalso
      have h1 := h.all.length_eq
      have h2 := List.length_pos_iff.mpr (h.ne ks List.mem_cons_self)
      rw [List.flatten_cons, List.length_append, List.length_range] at h1
      omega
  | n + 1, kss, h => by
    have hn : n ∈ kss.flatten := h.all.symm.subset (List.mem_range.mpr (Nat.lt_succ_self n))
    have hle : ∀ ks ∈ kss, ∀ x ∈ ks, x ≤ n := fun ks hk x hx => by
      have := List.mem_range.mp (h.all.subset (List.mem_flatten.mpr ⟨ks, hk, hx⟩))
      omega
    obtain ⟨ks, hk, hnk⟩ := List.mem_flatten.mp hn
    obtain ⟨kl, kr, rfl⟩ := List.append_of_mem hk
    obtain ⟨l, r, rfl⟩ := List.append_of_mem hnk
    have hr : r = [] := up_last (h.up _ hk) (hle _ hk)
    subst hr
    have hp : ((kl.flatten ++ (l ++ kr.flatten)) ++ [n]).Perm (List.range n ++ [n]) := by
      have h1 := h.all
      rw [List.range_succ, List.flatten_append, List.flatten_cons] at h1
      refine List.Perm.trans ?_ h1
      rw [List.append_assoc, List.append_assoc, List.append_assoc]
      exact List.Perm.append_left _ (List.Perm.append_left _ List.perm_append_comm)
    have hp2 : (kl.flatten ++ (l ++ kr.flatten)).Perm (List.range n) := (List.perm_append_right_iff [n]).mp hp
    have hhd := h.hd
    rw [List.map_append, List.map_cons] at hhd
    obtain ⟨a1, a2, a3⟩ := List.pairwise_append.mp hhd
    obtain ⟨a4, a5⟩ := List.pairwise_cons.mp a2
    refine List.mem_flatMap.mpr ?_
    by_cases hl : l = []
    · subst hl
      have hkr : kr = [] := by
        cases kr with
        | nil => rfl
        | cons c s =>
          exfalso
          have hc : c ∈ kl ++ ([] ++ [n]) :: c :: s := List.mem_append_right _ (List.mem_cons_of_mem _ List.mem_cons_self)
          have h1 := a4 (c.headD 0) (List.mem_map.mpr ⟨c, List.mem_cons_self, rfl⟩)
          have h2 : c.headD 0 ≤ n := by
            cases c with
            | nil => exact Nat.zero_le _
            | cons x y => exact hle _ hc x List.mem_cons_self
          have h3 : (([] : List Nat) ++ [n]).headD 0 = n := rfl
          omega
      subst hkr
      refine ⟨kl, can_in n kl ⟨fun x hx => h.ne x (List.mem_append_left _ hx), fun x hx => h.up x (List.mem_append_left _ hx), a1, by simpa using hp2⟩, List.mem_append_right _ (List.mem_singleton.mpr rfl)⟩
    · have hmem : ∀ x, x ∈ kl ++ l :: kr → x = l ∨ x ∈ kl ++ (l ++ [n]) :: kr := fun x hx => by
        rcases List.mem_append.mp hx with z | z
        · exact .inr (List.mem_append_left _ z)
        · rcases List.mem_cons.mp z with y | y
          · exact .inl y
          · exact .inr (List.mem_append_right _ (List.mem_cons_of_mem _ y))
      refine ⟨kl ++ l :: kr, can_in n _ ⟨fun x hx => ?_, fun x hx => ?_, ?_, ?_⟩, List.mem_append_left _ (List.mem_of_getElem? (puts_get n kl l kr))⟩
      · rcases hmem x hx with z | z
        · rw [z]; exact hl
        · exact h.ne x z
      · rcases hmem x hx with z | z
        · rw [z]; exact (List.pairwise_append.mp (h.up _ hk)).1
        · exact h.up x z
      · rw [List.map_append, List.map_cons]
        rw [hd_snoc hl] at hhd
        exact hhd
      · rw [List.flatten_append, List.flatten_cons]
        exact hp2
def CutLT (H : Hp) (c : Addr) (gs : List Gp) (kss : List (List Nat)) : Prop := ∃ ws, H c = some (.lst ws) ∧ Paired (PAt H) ws kss ∧ (∀ ks ∈ kss, ∀ k ∈ ks, k < gs.length)
def spPaid : Sp := fun vs H Q _ => ∃ (a c : Addr) (us : List V) (gs : List Gp) (t : Int) (kss : List (List Nat)), vs = [.ref a, .int t, .ref c] ∧ H a = some (.tup us) ∧ Paired (GAt H) us gs ∧ GsOk gs ∧ (CutAt H c gs kss ∨ CutLT H c gs kss) ∧ ∀ H', Same H H' → Q (.int (totP gs t kss)) H'
theorem ok_paid3 (T : Txt K mg) : L2.Cl P w K mg base 2 "_law_paid" ["_law_told", "_law_toll_here", "_law_cut"] spPaid := by
  have C_law_ones := ok_ones (P := P) (w := w) (base := base) T
  refine Cl.of T.d_law_paid sc_law_paid (fun vs H Q E h => ?_) (fun _ _ _ _ _ _ us hl => match us, hl with | [_, _, _], _ => rfl) (fun f cdv A outer s H vs Q E hr h => ?_)
  · obtain ⟨a, c, us, gs, t, kss, rfl, _⟩ := h
    rfl
  · obtain ⟨a, c, us, gs, t, kss, rfl, ha, hus, hok, hcut, q⟩ := h
    refine ⟨_, (pss_cons (ps_set (i := 3) sc_law_paid.nd rfl (Or.inl rfl) pe_int)
      (pss_cons (ps_for PassesOwn.never rfl (pi_or (pi_tup (pv 2)) (pi_list (pv 2))) (pg_name (i := 4) sc_law_paid.nd rfl (Or.inl rfl))
        (pss_cons (ps_set (i := 5) sc_law_paid.nd rfl (Or.inl rfl) pe_int)
        (pss_cons (ps_set (i := 6) sc_law_paid.nd rfl (Or.inl rfl) (pv 1))
        (pss_cons (ps_for PassesOwn.never rfl (pi_tup (pv 4)) (pg_name (i := 7) sc_law_paid.nd rfl (Or.inl rfl))
          (pss_cons (ps_set (i := 5) sc_law_paid.nd rfl (Or.inl rfl) (pe_op op_or (pv 5) (pe_ix ix_tup (pe_ix ix_tup (pv 0) (pv 7) (fun _ _ => rfl)) pe_int (fun _ _ => rfl))))
          (pss_one (ps_set (i := 6) sc_law_paid.nd rfl (Or.inl rfl) (pe_op op_add (pv 6) (pe_ix ix_tup (pe_ix ix_tup (pv 0) (pv 7) (fun _ _ => rfl)) pe_int (fun _ _ => rfl)))))))
        (pss_one (ps_set (i := 3) sc_law_paid.nd rfl (Or.inl rfl) (pe_op op_add (pv 3) (pe_op op_mul (pe_fn C_law_ones hr (by rfl) (pa_cons (pv 5) pa_nil)) (pv 6)))))))))
      (pss_one (ps_ret (pv 3))))), ?_⟩
    rcases hcut with ⟨ws, hc, hws, hks, hkl⟩ | ⟨ws, hc, hws, hks⟩
    · have hwl : ws.length = kss.length := Paired.length hws
      refine .inl ⟨_, rfl, c, rfl, ⟨_, SqT.of hc⟩, for_tup (K := K) (a := c) (xs := ws) (fun i σ H2 => H2 = H ∧ ∃ v4 v5 v6 v7 : Option V, σ = [some (.ref a), some (.int t), some (.ref c), some (.int (totP gs t (kss.take i))), v4, v5, v6, v7])
        ⟨rfl, none, none, none, none, rfl⟩ (fun i σ H2 _ ⟨e, _⟩ => by rw [e]; exact SqT.of hc) ?_ ?_⟩
      · rintro i y σ H2 hy ⟨rfl, v4, v5, v6, v7, rfl⟩
        obtain ⟨ks, hkk, b, eb, hb⟩ := Paired.get? hws hy
        subst eb
        have hkb := hks ks (List.mem_of_getElem? hkk)
        refine ⟨_, rfl, ?_⟩
        refine ⟨_, rfl, b, rfl, ⟨_, SqT.of hb⟩, for_tup (K := K) (a := b) (xs := natsV ks) (fun j σ H3 => H3 = H2 ∧ ∃ v7 : Option V, σ = [some (.ref a), some (.int t), some (.ref c), some (.int (totP gs t (kss.take i))), some (.ref b), some (.int (oned gs (ks.take j) : Int)), some (.int (load gs t (ks.take j))), v7])
          ⟨rfl, _, rfl⟩ (fun j σ H3 _ ⟨e, _⟩ => by rw [e]; exact SqT.of hb) ?_ ?_⟩
        · rintro j y σ H3 hy ⟨rfl, v7', rfl⟩
          obtain ⟨k, hk, rfl⟩ := natsV_get hy
          obtain ⟨tt, u, hat, htt⟩ := gp_get hus (hkb k (List.mem_of_getElem? hk))
          have z0 : atI [V.int ((gpAt gs k).1 : Int), u, V.int (gpAt gs k).2] 0 = some (.int ((gpAt gs k).1 : Int)) := atI_nat (j := 0) rfl
          have z2 : atI [V.int ((gpAt gs k).1 : Int), u, V.int (gpAt gs k).2] 2 = some (.int (gpAt gs k).2) := atI_nat (j := 2) rfl
          refine ⟨_, rfl, _, rfl, _, rfl, a, _, _, _, rfl, rfl, SqT.of ha, hat, tt, _, _, _, rfl, rfl, SqT.of htt, z0, _, _, rfl, rfl, ?_⟩
          refine ⟨_, rfl, _, rfl, _, rfl, a, _, _, _, rfl, rfl, SqT.of ha, hat, tt, _, _, _, rfl, rfl, SqT.of htt, z2, _, _, rfl, rfl, ?_⟩
          refine ⟨rfl, some (.int (k : Int)), ?_⟩
          rw [take_succ_get hk, oned_snoc, load_snoc, ← bitOr_nat]
          rfl
        · rintro σ H3 ⟨rfl, v7', rfl⟩
          rw [natsV_len, List.take_length]
          have hlt := oned_lt hok ks
          refine ⟨_, rfl, _, rfl, oned gs ks, rfl, _, rfl, _, _, rfl, rfl, ?_, _, _, rfl, rfl, ?_⟩
          · have h1 := count_bits 24 (oned gs ks) hlt
            have h2 := List.length_filter_le (fun j => (oned gs ks).testBit j) (List.range 24)
            rw [List.length_range] at h2
            exact .inl ⟨by omega, by omega⟩
          · refine ⟨rfl, some (.ref b), some (.int (oned gs ks : Int)), some (.int (load gs t ks)), v7', ?_⟩
            rw [take_succ_get hkk, totP_snoc]
            rfl
      · rintro σ H2 ⟨rfl, v4, v5, v6, v7, rfl⟩
        rw [hwl, List.take_length]
        exact ⟨_, rfl, q _ (Same.refl _)⟩
    · have hwl : ws.length = kss.length := Paired.length hws
      refine .inr ⟨_, rfl, c, rfl, ⟨_, SqL.of hc⟩, for_list (K := K) (a := c) (xs := ws) (fun i σ H2 => H2 = H ∧ ∃ v4 v5 v6 v7 : Option V, σ = [some (.ref a), some (.int t), some (.ref c), some (.int (totP gs t (kss.take i))), v4, v5, v6, v7])
        ⟨rfl, none, none, none, none, rfl⟩ (fun i σ H2 _ ⟨e, _⟩ => by rw [e]; exact SqL.of hc) ?_ ?_⟩
      · rintro i y σ H2 hy ⟨rfl, v4, v5, v6, v7, rfl⟩
        obtain ⟨ks, hkk, b, eb, hb⟩ := Paired.get? hws hy
        subst eb
        have hkb := hks ks (List.mem_of_getElem? hkk)
        refine ⟨_, rfl, ?_⟩
        refine ⟨_, rfl, b, rfl, ⟨_, SqT.of hb⟩, for_tup (K := K) (a := b) (xs := natsV ks) (fun j σ H3 => H3 = H2 ∧ ∃ v7 : Option V, σ = [some (.ref a), some (.int t), some (.ref c), some (.int (totP gs t (kss.take i))), some (.ref b), some (.int (oned gs (ks.take j) : Int)), some (.int (load gs t (ks.take j))), v7])
          ⟨rfl, _, rfl⟩ (fun j σ H3 _ ⟨e, _⟩ => by rw [e]; exact SqT.of hb) ?_ ?_⟩
        · rintro j y σ H3 hy ⟨rfl, v7', rfl⟩
          obtain ⟨k, hk, rfl⟩ := natsV_get hy
          obtain ⟨tt, u, hat, htt⟩ := gp_get hus (hkb k (List.mem_of_getElem? hk))
          have z0 : atI [V.int ((gpAt gs k).1 : Int), u, V.int (gpAt gs k).2] 0 = some (.int ((gpAt gs k).1 : Int)) := atI_nat (j := 0) rfl
          have z2 : atI [V.int ((gpAt gs k).1 : Int), u, V.int (gpAt gs k).2] 2 = some (.int (gpAt gs k).2) := atI_nat (j := 2) rfl
          refine ⟨_, rfl, _, rfl, _, rfl, a, _, _, _, rfl, rfl, SqT.of ha, hat, tt, _, _, _, rfl, rfl, SqT.of htt, z0, _, _, rfl, rfl, ?_⟩
          refine ⟨_, rfl, _, rfl, _, rfl, a, _, _, _, rfl, rfl, SqT.of ha, hat, tt, _, _, _, rfl, rfl, SqT.of htt, z2, _, _, rfl, rfl, ?_⟩
          refine ⟨rfl, some (.int (k : Int)), ?_⟩
          rw [take_succ_get hk, oned_snoc, load_snoc, ← bitOr_nat]
          rfl
        · rintro σ H3 ⟨rfl, v7', rfl⟩
          rw [natsV_len, List.take_length]
          have hlt := oned_lt hok ks
          refine ⟨_, rfl, _, rfl, oned gs ks, rfl, _, rfl, _, _, rfl, rfl, ?_, _, _, rfl, rfl, ?_⟩
          · have h1 := count_bits 24 (oned gs ks) hlt
            have h2 := List.length_filter_le (fun j => (oned gs ks).testBit j) (List.range 24)
            rw [List.length_range] at h2
            exact .inl ⟨by omega, by omega⟩
          · refine ⟨rfl, some (.ref b), some (.int (oned gs ks : Int)), some (.int (load gs t ks)), v7', ?_⟩
            rw [take_succ_get hkk, totP_snoc]
            rfl
      · rintro σ H2 ⟨rfl, v4, v5, v6, v7, rfl⟩
        rw [hwl, List.take_length]
        exact ⟨_, rfl, q _ (Same.refl _)⟩
theorem cut_takeV {xs : List V} {k : Nat} (h : k ≤ xs.length) : cutV xs none (some ((k : Nat) : Int)) = xs.take k := by
  unfold cutV
  rw [HT.sIx_none, HT.sIx_nat, Nat.min_eq_left h, List.drop_zero, Nat.sub_zero]
theorem cut_fromV (xs : List V) (k : Nat) (hk : k ≤ xs.length) : cutV xs (some (k : Int)) none = xs.drop k := by
  unfold cutV
  rw [HT.sIx_none, HT.sIx_nat, Nat.min_eq_left hk]
  exact List.take_of_length_le (by rw [List.length_drop]; exact Nat.le_refl _)
theorem pd_take {α β : Type} {F : α → β → Prop} {xs : List α} {ys : List β} (h : Paired F xs ys) : ∀ n, Paired F (xs.take n) (ys.take n) := by
  induction h with
  | nil => intro n; rw [List.take_nil, List.take_nil]; exact .nil
  | cons r t ih => intro n; cases n with
    | zero => exact .nil
    | succ n => exact .cons r (ih n)
theorem pd_drop {α β : Type} {F : α → β → Prop} {xs : List α} {ys : List β} (h : Paired F xs ys) : ∀ n, Paired F (xs.drop n) (ys.drop n) := by
  induction h with
  | nil => intro n; rw [List.drop_nil, List.drop_nil]; exact .nil
  | cons r t ih => intro n; cases n with
    | zero => exact .cons r t
    | succ n => exact ih n
theorem pd_app {α β : Type} {F : α → β → Prop} {xs xs' : List α} {ys ys' : List β} (h : Paired F xs ys) (g : Paired F xs' ys') : Paired F (xs ++ xs') (ys ++ ys') := by
  induction h with
  | nil => exact g
  | cons r _ ih => exact .cons r ih
theorem puts_at {k t : Nat} {kss : List (List Nat)} {ks : List Nat} (h : kss[t]? = some ks) : (puts k kss)[t]? = some (kss.take t ++ [ks ++ [k]] ++ kss.drop (t + 1)) := by
  obtain ⟨ht, e⟩ := List.getElem?_eq_some_iff.mp h
  have e2 : kss = kss.take t ++ ks :: kss.drop (t + 1) := by rw [← e, ← List.drop_eq_getElem_cons ht, List.take_append_drop]
  have h1 := puts_get k (kss.take t) ks (kss.drop (t + 1))
  rw [← e2, List.length_take, Nat.min_eq_left (Nat.le_of_lt ht)] at h1
  rw [h1, List.append_assoc]
  rfl
theorem cuts_dr : ∀ n, ∀ x ∈ cutsM n, Dr x n
  | 0, x, h => by rw [List.mem_singleton.mp h]; exact ⟨by simp, by simp, by simp, .refl _⟩
  | n + 1, x, h => by
    obtain ⟨y, hy, hx⟩ := List.mem_flatMap.mp h
    have hd := cuts_dr n y hy
    rcases List.mem_append.mp hx with z | z
    · obtain ⟨kl, ks, kr, e1, rfl⟩ := mem_puts z
      rw [e1] at hd
      exact hd.more
    · rw [List.mem_singleton.mp z]
      exact hd.new
theorem Dr.short {kss : List (List Nat)} {n : Nat} (h : Dr kss n) {ks : List Nat} (hk : ks ∈ kss) : ks.length ≤ n := by
  obtain ⟨kl, kr, rfl⟩ := List.append_of_mem hk
  have hf := h.prm.length_eq
  rw [List.flatten_append, List.flatten_cons, List.length_append, List.length_append, List.length_range] at hf
  omega
def CLt (H : Hp) (v : V) (kss : List (List Nat)) : Prop := ∃ c ws, v = .ref c ∧ H c = some (.lst ws) ∧ Paired (PAt H) ws kss
def CLn (M : Addr) (H : Hp) (v : V) (kss : List (List Nat)) : Prop := ∃ c ws, v = .ref c ∧ c ≠ M ∧ H c = some (.lst ws) ∧ Paired (PAt H) ws kss
theorem CLt.same {H H' : Hp} {v : V} {kss : List (List Nat)} (h : CLt H v kss) (s : Same H H') : CLt H' v kss := by
  obtain ⟨c, ws, e, h1, h2⟩ := h
  exact ⟨c, ws, e, s _ _ h1, Paired.mapP h2 fun _ _ z => z.mono s.tups⟩
theorem CLn.same {M : Addr} {H H' : Hp} {v : V} {kss : List (List Nat)} (h : CLn M H v kss) (s : Same H H') : CLn M H' v kss := by
  obtain ⟨c, ws, e, hn, h1, h2⟩ := h
  exact ⟨c, ws, e, hn, s _ _ h1, Paired.mapP h2 fun _ _ z => z.mono s.tups⟩
theorem CLn.put {M : Addr} {H : Hp} {v : V} {kss : List (List Nat)} {xs ys : List V} (h : CLn M H v kss) (hM : H M = some (.lst xs)) : CLn M (upd H M (.lst ys)) v kss := by
  obtain ⟨c, ws, e, hn, h1, h2⟩ := h
  exact ⟨c, ws, e, hn, by rw [upd_ne hn]; exact h1, Paired.mapP h2 fun _ _ z => z.mono (Tups.lst hM)⟩
theorem cuts_part {i j : Nat} {kss : List (List Nat)} (hi : i + 1 ≤ 6) (h : (cutsM i)[j]? = some kss) : ((cutsM i).take (j + 1)).flatMap (ext i) = ((cutsM i).take j).flatMap (ext i) ++ (puts i kss ++ [kss ++ [[i]]]) ∧ (((cutsM i).take j).flatMap (ext i)).length + kss.length + 1 ≤ 203 := by
  have e : ((cutsM i).take (j + 1)).flatMap (ext i) = ((cutsM i).take j).flatMap (ext i) ++ (puts i kss ++ [kss ++ [[i]]]) := by
    rw [take_succ_get h, List.flatMap_append]
    congr 1
    simp [ext]
  refine ⟨e, ?_⟩
  have h1 := cuts_len (i + 1) hi
  have h2 : cutsM (i + 1) = ((cutsM i).take (j + 1)).flatMap (ext i) ++ ((cutsM i).drop (j + 1)).flatMap (ext i) := by
    rw [← List.flatMap_append, List.take_append_drop]
    rfl
  rw [h2, e] at h1
  simp only [List.length_append, puts_len, List.length_singleton] at h1
  omega
def spCuts : Sp := fun vs H Q _ => ∃ n : Nat, vs = [.int (n : Int)] ∧ n ≤ 6 ∧ ∀ (x : Addr) (ys : List V) (H' : Hp), Same H H' → H' x = some (.lst ys) → Paired (CLt H') ys (cutsM n) → Q (.ref x) H'
theorem ok_cuts (T : Txt K mg) : L2.Cl P w K mg base 1 "_law_cuts" ["_law_many"] spCuts := by
  refine Cl.of T.d_law_cuts sc_law_cuts (fun vs H Q E h => ?_) (fun _ _ _ _ _ _ us hl => match us, hl with | [_], _ => rfl) (fun f cdv A outer s H vs Q E hr h => ?_)
  · obtain ⟨n, rfl, _⟩ := h
    rfl
  · obtain ⟨n, rfl, hn, q⟩ := h
    refine ⟨_, (pss_cons (ps_set (i := 1) sc_law_cuts.nd rfl (Or.inl rfl) (pe_lst (pa_cons (pe_lst pa_nil) pa_nil)))
      (pss_cons (ps_for PassesOwn.never rfl (pi_range1 (by rfl) T.n_range (pa_cons (pv 0) pa_nil)) (pg_name (i := 2) sc_law_cuts.nd rfl (Or.inl rfl))
        (pss_cons (ps_set (i := 3) sc_law_cuts.nd rfl (Or.inl rfl) (pe_lst pa_nil))
        (pss_cons (ps_for PassesOwn.never rfl (pi_list (pv 1)) (pg_name (i := 4) sc_law_cuts.nd rfl (Or.inl rfl))
          (pss_cons (ps_for PassesOwn.never rfl (pi_range1 (by rfl) T.n_range (pa_cons (pe_callB call_len_seq (by rfl) T.n_len PySem.boot_len (pa_cons (pv 4) pa_nil)) pa_nil)) (pg_name (i := 5) sc_law_cuts.nd rfl (Or.inl rfl))
            (pss_one (ps_expr (pe_bm PySem.F.plainAttrs_list PySem.F.slot_list_append PySem.F.type_list_append mt_append (pv 3) (pa_cons (pe_op op_cat (pe_op op_cat (pe_slice sl_list (pv 4) po_none (po_some (pv 5))) (pe_lst (pa_cons (pe_op op_catA (pe_ix ix_list (pv 4) (pv 5) (fun _ _ => rfl)) (pe_tup (pa_cons (pv 2) pa_nil))) pa_nil))) (pe_slice sl_list (pv 4) (po_some (pe_op op_add (pv 5) pe_int)) po_none)) pa_nil)))))
          (pss_one (ps_expr (pe_bm PySem.F.plainAttrs_list PySem.F.slot_list_append PySem.F.type_list_append mt_append (pv 3) (pa_cons (pe_op op_cat (pv 4) (pe_lst (pa_cons (pe_tup (pa_cons (pv 2) pa_nil)) pa_nil))) pa_nil))))))
        (pss_one (ps_set (i := 1) sc_law_cuts.nd rfl (Or.inl rfl) (pv 3))))))
      (pss_one (ps_ret (pv 1))))), ?_⟩
    refine ⟨(by show 0 ≤ sizeLine; decide), fun e ge => ?_⟩
    refine ⟨(by show 1 ≤ sizeLine; decide), fun C gC => ?_⟩
    have s1 : Same H (upd (upd H e (.lst [])) C (.lst [.ref e])) := ((Same.refl H).new ge).new gC
    refine ⟨_, rfl, _, rfl, by omega, by omega, ?_⟩
    rw [Int.toNat_natCast]
    refine for_range (fun i σ H2 => ∃ (C : Addr) (ys : List V) (v2 v3 v4 v5 : Option V), σ = [some (.int (n : Int)), some (.ref C), v2, v3, v4, v5] ∧ Same H H2 ∧ H2 C = some (.lst ys) ∧ Paired (CLt H2) ys (cutsM i)) ⟨C, [.ref e], none, none, none, none, rfl, s1, upd_same, .cons ⟨e, [], rfl, upd_keep upd_same gC, .nil⟩ .nil⟩ ?_ ?_
    · clear s1 gC ge
      rintro i σ H2 hi ⟨C, ys, v2, v3, v4, v5, rfl, s2, hC, hys⟩
      refine ⟨(by show 0 ≤ sizeLine; decide), fun M gM => ?_⟩
      have s3 : Same H2 (upd H2 M (.lst [])) := (Same.refl H2).new gM
      refine ⟨_, rfl, C, rfl, ⟨_, SqL.of (s3 _ _ hC)⟩, for_list (K := K) (a := C) (xs := ys) (fun j σ H3 => ∃ (ms : List V) (v4 v5 : Option V), σ = [some (.int (n : Int)), some (.ref C), some (.int (0 + (i : Int))), some (.ref M), v4, v5] ∧ Same H2 H3 ∧ H3 M = some (.lst ms) ∧ Paired (CLn M H3) ms (((cutsM i).take j).flatMap (ext i)))
        ⟨[], v4, v5, rfl, s3, upd_same, .nil⟩ (fun j σ H3 _ ⟨_, _, _, _, s3, _⟩ => SqL.of (s3 _ _ hC)) ?_ ?_⟩
      · clear s3
        rintro j y σ H3 hy ⟨ms, v4, v5, rfl, s3, hM, hms⟩
        obtain ⟨kss, hk, c, ws, ey, hc, hws⟩ := Paired.get? hys hy
        subst ey
        have hmem := List.mem_of_getElem? hk
        have hfew := cuts_few i kss hmem
        have hdr := cuts_dr i kss hmem
        have hwl : ws.length = kss.length := Paired.length hws
        obtain ⟨epart, hpart⟩ := cuts_part (by omega) hk
        refine ⟨_, rfl, c, _, rfl, .inl (SqL.of (s3 _ _ hc)), _, rfl, by omega, by omega, ?_⟩
        rw [Int.toNat_natCast]
        refine for_range (fun t σ H4 => ∃ (ms : List V) (v5 : Option V), σ = [some (.int (n : Int)), some (.ref C), some (.int (0 + (i : Int))), some (.ref M), some (.ref c), v5] ∧ Same H2 H4 ∧ H4 M = some (.lst ms) ∧ Paired (CLn M H4) ms (((cutsM i).take j).flatMap (ext i) ++ (puts i kss).take t)) ⟨ms, v5, rfl, s3, hM, by rw [List.take_zero, List.append_nil]; exact hms⟩ ?_ ?_
        · clear s3 hM hms
          rintro t σ H4 ht ⟨ms, v5, rfl, s4, hM, hms⟩
          have hc4 := s4 _ _ hc
          obtain ⟨ks, hks, tt, ett, htt⟩ := Paired.get? hws (List.getElem?_eq_getElem ht)
          have hkn := hdr.short (List.mem_of_getElem? hks)
          have hat : atI ws (0 + (t : Int)) = some (.ref tt) := by rw [Int.zero_add]; exact atI_nat (by rw [← ett]; exact List.getElem?_eq_getElem ht)
          have hml : ms.length ≤ 203 := by
            rw [Paired.length hms, List.length_append, List.length_take, puts_len]
            omega
          refine ⟨_, rfl, .inl ⟨rfl, _, SqL.of hM⟩, _, rfl, _, rfl, _, rfl, c, _, rfl, SqL.of hc4, fun p1 g1 => ?_⟩
          rw [show (0 + (t : Int)) = ((t : Nat) : Int) by omega, cut_takeV (Nat.le_of_lt ht)]
          have s5 : Same H4 (upd H4 p1 (.lst (ws.take t))) := (Same.refl H4).new g1
          have h1 : upd H4 p1 (.lst (ws.take t)) p1 = some (.lst (ws.take t)) := upd_same
          generalize upd H4 p1 (.lst (ws.take t)) = H5 at s5 h1 ⊢
          rw [Int.zero_add] at hat
          refine ⟨_, rfl, _, rfl, c, _, _, _, rfl, rfl, SqL.of (s5 _ _ hc4), hat, _, rfl, (by show 1 ≤ sizeLine; decide), fun p2 g2 => ?_⟩
          have s6 : Same H5 (upd H5 p2 (.tup [.int (0 + (i : Int))])) := (Same.refl H5).new g2
          have h2 : upd H5 p2 (.tup [.int (0 + (i : Int))]) p2 = some (.tup [.int (0 + (i : Int))]) := upd_same
          generalize upd H5 p2 (.tup [.int (0 + (i : Int))]) = H6 at s6 h2 ⊢
          have s46 := s5.trans s6
          refine ⟨tt, p2, _, _, rfl, rfl, SqT.of (s46 _ _ (s4 _ _ htt)), SqT.of h2, Nat.le_of_lt (small1000 (by rw [natsV_len, List.length_singleton]; omega)), fun z => absurd z (fun z => hdr.ne ks (List.mem_of_getElem? hks) (by unfold natsV at z; simpa using z)), fun _ z => by simp at z, fun _ _ p3 g3 => ?_⟩
          have s7 : Same H6 (upd H6 p3 (.tup (natsV ks ++ [.int (0 + (i : Int))]))) := (Same.refl H6).new g3
          have h3 : upd H6 p3 (.tup (natsV ks ++ [.int (0 + (i : Int))])) p3 = some (.tup (natsV (ks ++ [i]))) := by rw [upd_same, natsV_snoc, Int.zero_add]
          generalize upd H6 p3 (.tup (natsV ks ++ [.int (0 + (i : Int))])) = H7 at s7 h3 ⊢
          refine ⟨(by show 1 ≤ sizeLine; decide), fun p4 g4 => ?_⟩
          have s8 : Same H7 (upd H7 p4 (.lst [.ref p3])) := (Same.refl H7).new g4
          have h4 : upd H7 p4 (.lst [.ref p3]) p4 = some (.lst [.ref p3]) := upd_same
          generalize upd H7 p4 (.lst [.ref p3]) = H8 at s8 h4 ⊢
          have htl : (ws.take t).length ≤ 6 := by rw [List.length_take]; omega
          refine ⟨p1, p4, _, _, rfl, rfl, s8 _ _ (s7 _ _ (s6 _ _ h1)), h4, Nat.le_of_lt (small1000 (by rw [List.length_singleton]; omega)), fun p5 g5 => ?_⟩
          have s9 : Same H8 (upd H8 p5 (.lst (ws.take t ++ [.ref p3]))) := (Same.refl H8).new g5
          have h5 : upd H8 p5 (.lst (ws.take t ++ [.ref p3])) p5 = some (.lst (ws.take t ++ [.ref p3])) := upd_same
          generalize upd H8 p5 (.lst (ws.take t ++ [.ref p3])) = H9 at s9 h5 ⊢
          have s49 := ((s46.trans s7).trans s8).trans s9
          refine ⟨_, rfl, _, rfl, _, _, rfl, rfl, _, rfl, c, _, rfl, SqL.of (s49 _ _ hc4), fun p6 g6 => ?_⟩
          rw [show ((t : Int) + 1) = ((t + 1 : Nat) : Int) by omega, cut_fromV ws (t + 1) ht]
          have s10 : Same H9 (upd H9 p6 (.lst (ws.drop (t + 1)))) := (Same.refl H9).new g6
          have h6 : upd H9 p6 (.lst (ws.drop (t + 1))) p6 = some (.lst (ws.drop (t + 1))) := upd_same
          generalize upd H9 p6 (.lst (ws.drop (t + 1))) = H10 at s10 h6 ⊢
          have hdl : (ws.drop (t + 1)).length ≤ 6 := by rw [List.length_drop]; omega
          refine ⟨p5, p6, _, _, rfl, rfl, s10 _ _ h5, h6, Nat.le_of_lt (small1000 (by rw [List.length_append, List.length_singleton]; omega)), fun p7 g7 => ?_⟩
          have s410 := s49.trans s10
          have hM10 := s410 _ _ hM
          have hn7 : p7 ≠ M := fun z => by rw [z, hM10] at g7; cases g7
          have s11 : Same H10 (upd H10 p7 (.lst (ws.take t ++ [.ref p3] ++ ws.drop (t + 1)))) := (Same.refl H10).new g7
          have h7 : upd H10 p7 (.lst (ws.take t ++ [.ref p3] ++ ws.drop (t + 1))) p7 = some (.lst (ws.take t ++ [.ref p3] ++ ws.drop (t + 1))) := upd_same
          generalize upd H10 p7 (.lst (ws.take t ++ [.ref p3] ++ ws.drop (t + 1))) = H11 at s11 h7 ⊢
          have hM11 := s11 _ _ hM10
          have s411 := s410.trans s11
          refine ⟨M, _, _, rfl, rfl, hM11, small1000 (by omega), ?_⟩
          refine ⟨ms ++ [.ref p7], _, rfl, (s4.trans s411).put gM, upd_same, ?_⟩
          rw [take_succ_get (puts_at hks), ← List.append_assoc]
          refine Paired.snoc (Paired.mapP hms fun _ _ z => (z.same s411).put hM11) (CLn.put ⟨p7, _, rfl, hn7, h7, ?_⟩ hM11)
          have hws11 : Paired (PAt H11) ws kss := Paired.mapP hws fun _ _ z => z.mono (s4.trans s411).tups
          exact pd_app (pd_app (pd_take hws11 t) (.cons ⟨p3, rfl, s11 _ _ (s10 _ _ (s9 _ _ (s8 _ _ h3)))⟩ .nil)) (pd_drop hws11 (t + 1))
        · clear s3 hM hms
          rintro σ H4 ⟨ms, v5, rfl, s4, hM, hms⟩
          rw [List.take_of_length_le (show (puts i kss).length ≤ ws.length by rw [puts_len]; omega)] at hms
          have hc4 := s4 _ _ hc
          have hml : ms.length ≤ 203 := by
            rw [Paired.length hms, List.length_append, puts_len]
            omega
          refine ⟨_, rfl, .inl ⟨rfl, _, SqL.of hM⟩, _, rfl, _, rfl, (by show 1 ≤ sizeLine; decide), fun p1 g1 => ?_⟩
          have s5 : Same H4 (upd H4 p1 (.tup [.int (0 + (i : Int))])) := (Same.refl H4).new g1
          have h1 : upd H4 p1 (.tup [.int (0 + (i : Int))]) p1 = some (.tup (natsV [i])) := by rw [upd_same, Int.zero_add]; rfl
          generalize upd H4 p1 (.tup [.int (0 + (i : Int))]) = H5 at s5 h1 ⊢
          refine ⟨(by show 1 ≤ sizeLine; decide), fun p2 g2 => ?_⟩
          have s6 : Same H5 (upd H5 p2 (.lst [.ref p1])) := (Same.refl H5).new g2
          have h2 : upd H5 p2 (.lst [.ref p1]) p2 = some (.lst [.ref p1]) := upd_same
          generalize upd H5 p2 (.lst [.ref p1]) = H6 at s6 h2 ⊢
          have s46 := s5.trans s6
          refine ⟨c, p2, _, _, rfl, rfl, s46 _ _ hc4, h2, Nat.le_of_lt (small1000 (by rw [List.length_singleton]; omega)), fun p3 g3 => ?_⟩
          have hM6 := s46 _ _ hM
          have hn3 : p3 ≠ M := fun z => by rw [z, hM6] at g3; cases g3
          have s7 : Same H6 (upd H6 p3 (.lst (ws ++ [.ref p1]))) := (Same.refl H6).new g3
          have h3 : upd H6 p3 (.lst (ws ++ [.ref p1])) p3 = some (.lst (ws ++ [.ref p1])) := upd_same
          generalize upd H6 p3 (.lst (ws ++ [.ref p1])) = H7 at s7 h3 ⊢
          have s47 := s46.trans s7
          have hM7 := s7 _ _ hM6
          refine ⟨M, _, _, rfl, rfl, hM7, small1000 (by omega), ?_⟩
          refine ⟨ms ++ [.ref p3], _, _, rfl, (s4.trans s47).put gM, upd_same, ?_⟩
          rw [epart, ← List.append_assoc]
          refine Paired.snoc (Paired.mapP hms fun _ _ z => (z.same s47).put hM7) (CLn.put ⟨p3, _, rfl, hn3, h3, ?_⟩ hM7)
          exact Paired.snoc (Paired.mapP hws fun _ _ z => z.mono (s4.trans s47).tups) ⟨p1, rfl, s7 _ _ (s6 _ _ h1)⟩
      · rintro σ H3 ⟨ms, v4', v5', rfl, s3', hM, hms⟩
        rw [List.take_of_length_le (by rw [← Paired.length hys]; exact Nat.le_refl _)] at hms
        refine ⟨_, rfl, M, ms, _, _, _, _, rfl, s2.trans s3', hM, Paired.mapP hms fun _ _ z => ?_⟩
        obtain ⟨c, ws, e, _, h1, h2⟩ := z
        exact ⟨c, ws, e, h1, h2⟩
    · rintro σ H2 ⟨C, ys, v2, v3, v4, v5, rfl, s2, hC, hys⟩
      exact ⟨_, rfl, q C ys H2 s2 hC hys⟩
theorem tint_of {H : Hp} {ws : List V} {kss : List (List Nat)} (h : Paired (PAt H) ws kss) : Paired (L2.TInt H) ws (kss.map toI) := by
  induction h with
  | nil => exact .nil
  | cons r _ ih =>
    refine .cons ?_ ih
    obtain ⟨t, e, ht⟩ := r
    exact ⟨t, e, by rw [← natsV_int]; exact ht⟩
theorem ltint_of {H : Hp} {ws : List V} {kk : List (List (List Nat))} (h : Paired (CLt H) ws kk) : Paired (L2.LTInt H) ws (kk.map fun kss => kss.map toI) := by
  induction h with
  | nil => exact .nil
  | cons r _ ih =>
    refine .cons ?_ ih
    obtain ⟨t, zs, e, ht, hz⟩ := r
    exact ⟨t, zs, e, ht, tint_of hz⟩
def spLaw (K : PySem.W.Frag) : Sp := fun vs H Q _ => ∃ (a : Addr) (ns : List Int), vs = [.ref a] ∧ SqL K H a (ns.map V.int) ∧ ns.length ≤ 63 ∧ ∀ H', Q (.bl true) H'
def Few6 (y : V) : Prop := ∃ n : Nat, y = .int (n : Int) ∧ n ≤ 6
theorem law_fn {f : Addr} {fd : FuncData} (F : Fun K "law" "law" s_law f fd) (T : Txt K mg) : FnOk P w K mg base CX0 7 f fd ["_law_script"] (spLaw K) := by
  have C_law_cell_at := ok_cell (P := P) (w := w) (base := base) T
  have C_law_toll := ok_toll (P := P) (w := w) (base := base) T
  have C_law_groups := ok_groups (P := P) (w := w) (base := base) T
  have C_cheapest := ok_cheap (P := P) (w := w) (base := base) T
  have C_law_is_cut := ok_is_cut (P := P) (w := w) (base := base) T
  have C_law_cuts := ok_cuts (P := P) (w := w) (base := base) T
  have C_law_paid := ok_paid3 (P := P) (w := w) (base := base) T
  refine F.ok sc_law (fun vs H Q E h => ?_) (fun cdv A outer s H vs Q E hr h => ?_)
  · obtain ⟨a, ns, rfl, _⟩ := h
    rfl
  · obtain ⟨a, ns, rfl, hS, hlen, q⟩ := h
    have hu2 := Nat.lt_of_le_of_lt (Nat.add_le_add_left (by decide : 2 ≤ 64) _) hr.units
    refine ⟨_, (pss_cons (ps_set (i := 1) sc_law.nd rfl (Or.inl rfl) (pe_op op_mod (pe_fn C_law_cell_at hr (by rfl) (pa_cons (pv 0) (pa_cons pe_int pa_nil))) pe_int))
      (pss_cons (ps_if (pt_cmpR op_eq (pe_op op_mod (pe_op op_fdiv (pe_fn C_law_cell_at hr (by rfl) (pa_cons (pv 0) (pa_cons pe_int pa_nil))) pe_int) pe_int) pe_int (nomark _))
        (pss_one (ps_set (i := 1) sc_law.nd rfl (Or.inl rfl) pe_int)) pss_nil)
      (pss_cons (ps_set (i := 2) sc_law.nd rfl (Or.inl rfl) (pe_fn C_law_toll hr (by rfl) (pa_cons (pe_fn C_law_cell_at hr (by rfl) (pa_cons (pv 0) (pa_cons pe_int pa_nil))) pa_nil)))
      (pss_cons (ps_set (i := 3) sc_law.nd rfl (Or.inl rfl) (pe_fn C_law_groups hr (by rfl) (pa_cons (pv 0) (pa_cons pe_int (pa_cons (pv 1) (pa_cons (pe_op op_mod (pe_fn C_law_cell_at hr (by rfl) (pa_cons (pv 0) (pa_cons pe_int pa_nil))) pe_int) pa_nil))))))
      (pss_cons (ps_set (i := 4) sc_law.nd rfl (Or.inl rfl) (pe_fn C_cheapest hr (by rfl) (pa_cons (pv 3) (pa_cons (pv 2) pa_nil))))
      (pss_cons (ps_set (i := 5) sc_law.nd rfl (Or.inl rfl) (pe_fn C_law_cuts hr (by rfl) (pa_cons (pv 1) pa_nil)))
      (pss_cons (ps_if (PW.pt (pw_or (pt_not (pt_val (pe_fn C_law_is_cut hr (by rfl) (pa_cons (pv 4) (pa_cons (pv 1) pa_nil))))) (pw_or1 (pt_cmpR (op_notIn_cuts hu2) (pe_callTy call_list_of (by rfl) T.n_list boot_list (pa_cons (pv 4) pa_nil)) (pv 5) (by with_unfolding_all rfl)))))
        (pss_one (ps_ret pe_bl)) pss_nil)
      (pss_cons (ps_set (i := 6) sc_law.nd rfl (Or.inl rfl) (pe_fn C_law_paid hr (by rfl) (pa_cons (pv 3) (pa_cons (pv 2) (pa_cons (pv 4) pa_nil)))))
      (pss_cons (ps_for PassesOwn.never rfl (pi_list (pv 5)) (pg_name (i := 7) sc_law.nd rfl (Or.inl rfl))
        (pss_one (ps_if (pt_cmpR op_lt (pe_fn C_law_paid hr (by rfl) (pa_cons (pv 3) (pa_cons (pv 2) (pa_cons (pv 7) pa_nil)))) (pv 6) (nomark _))
          (pss_one (ps_ret pe_bl)) pss_nil)))
      (pss_one (ps_ret pe_bl))))))))))), ?_⟩
    refine ⟨_, rfl, a, ns, 0, rfl, hS, by decide, fun c => ⟨_, _, rfl, rfl, (by show (0 : Int) < 6; decide), ?_⟩⟩
    refine g_if_any (Pv := Few6) (fun Q' h => ⟨_, rfl, a, ns, 0, rfl, hS, by decide, fun c1 => ⟨_, _, rfl, rfl, ⟨by decide, by decide⟩, _, _, rfl, rfl, (by show (0 : Int) < 8; decide), rfl, _, rfl, h _⟩⟩) (fun Q' h => h _ ⟨6, rfl, by decide⟩) ⟨(c % 6).toNat, by rw [Int.toNat_of_nonneg (by omega)], by omega⟩ ?_
    rintro _ ⟨n, rfl, hn⟩
    refine ⟨_, rfl, a, ns, 1, rfl, hS, by decide, fun c1 => ⟨c1, rfl, fun t => ?_⟩⟩
    refine ⟨_, rfl, _, rfl, _, rfl, a, ns, 2, rfl, hS, by decide, fun c2 => ⟨_, _, rfl, rfl, (by show (0 : Int) < 4; decide), a, ns, 3, (n : Int), c2 % 4, rfl, hS, by decide, by decide, by omega, by omega, fun x vs gs H1 s1 hx hvs hgl hgo => ?_⟩⟩
    rw [Int.toNat_natCast] at hgl
    have h256 : 2 ^ gs.length ≤ 256 := two_le (by omega)
    have h24 : (256 : Nat) ≤ 2 ^ 24 := by decide
    have hpos : 0 < 2 ^ gs.length := Nat.two_pow_pos _
    refine ⟨_, rfl, _, rfl, x, vs, gs, t, rfl, hx, hvs, hgo, by omega, fun cp ws ps cs H2 s2 hcp hws hch hopt hcl => ?_⟩
    have hok := ch_ok hopt (by omega) hch (by omega)
    rw [hgl] at hok
    have hcut := ch_cut (by omega) hok
    have hin : ∀ ks ∈ ps.map bitsL, ∀ k ∈ ks, k < gs.length := fun ks hk k hkk => by
      have : k ∈ (ps.map bitsL).flatten := List.mem_flatten.mpr ⟨ks, hk, hkk⟩
      have := hcut.all.subset this
      rw [hgl]
      exact List.mem_range.mp this
    have hfew := hcut.few
    have hcan : Can (ps.map bitsL) n := ⟨hcut.ne, fun ks hk => by
      obtain ⟨p, _, rfl⟩ := List.mem_map.mp hk
      exact bitsL_up p, by rw [List.map_map]; exact hok.up, hcut.all⟩
    have hbound : ∀ kss, Dr kss n → totP gs t (ps.map bitsL) ≤ totP gs t kss := fun kss hd => by
      obtain ⟨qs, h1, h2⟩ := masks_of (by omega) hd
      have h3 := hd.prm
      rw [← h1, flat_masks, ← bits_all n (by omega), ← hgl] at h3
      have h4 := best_least hopt (by omega) (2 ^ gs.length - 1) qs (by omega) h2 h3
      have h5 := hok.sum
      rw [← hgl] at h5
      rw [h5, ← totP_masks, ← totP_masks, h1] at h4
      exact h4
    refine ⟨_, rfl, n, rfl, hn, fun y ys H3 s3 hy hys => ?_⟩
    have s13 := s2.trans s3
    have hvs3 : Paired (GAt H3) vs gs := Paired.mapP hvs fun _ _ z => z.mono s13.tups
    have hx3 := s13 _ _ hx
    have hcp3 := s3 _ _ hcp
    have hws3 : Paired (PAt H3) ws (ps.map bitsL) := Paired.mapP hws fun _ _ z => z.mono s3.tups
    refine to_g ?_
    refine ⟨_, rfl, _, rfl, cp, ws, ps.map bitsL, n, rfl, hcp3, hws3, hcut, by omega, fun H5 s5 => ⟨_, rfl, iteF ?_⟩⟩
    refine ⟨_, rfl, cp, _, rfl, .inr (SqT.of (s5 _ _ hcp3)), fun l1 g1 => ?_⟩
    have s6 : Same H5 (upd H5 l1 (.lst ws)) := (Same.refl H5).new g1
    have h6 : upd H5 l1 (.lst ws) l1 = some (.lst ws) := upd_same
    generalize upd H5 l1 (.lst ws) = H6 at s6 h6 ⊢
    have s36 := s5.trans s6
    refine ⟨_, rfl, l1, y, ws, ys, _, _, rfl, rfl, h6, tint_of (Paired.mapP hws3 fun _ _ z => z.mono s36.tups), SqL.of (s36 _ _ hy), ltint_of (Paired.mapP hys fun _ _ z => z.same s36), List.mem_map.mpr ⟨_, can_in n _ hcan, rfl⟩, _, rfl, iteF ?_⟩
    refine ⟨_, rfl, _, rfl, _, rfl, x, cp, vs, gs, t, ps.map bitsL, rfl, s36 _ _ hx3, Paired.mapP hvs3 fun _ _ z => z.mono s36.tups, hgo, .inl ⟨ws, s36 _ _ hcp3, Paired.mapP hws3 fun _ _ z => z.mono s36.tups, hin, hfew⟩, fun H7 s7 => ?_⟩
    have s37 := s36.trans s7
    refine ⟨_, rfl, y, rfl, ⟨_, SqL.of (s37 _ _ hy)⟩, for_list (K := K) (a := y) (xs := ys) (fun j σ H8 => ∃ v7 : Option V, σ = [some (.ref a), some (.int (n : Int)), some (.int t), some (.ref x), some (.ref cp), some (.ref y), some (.int (totP gs t (ps.map bitsL))), v7] ∧ Same H7 H8) ⟨_, rfl, Same.refl H7⟩ (fun j σ H8 _ ⟨_, _, s8⟩ => SqL.of (s8 _ _ (s37 _ _ hy))) ?_ ?_⟩
    · rintro j yy σ H8 hyy ⟨v7, rfl, s8⟩
      obtain ⟨kss, hk, c', zs, ey, hc', hzs⟩ := Paired.get? hys hyy
      subst ey
      have hdr := cuts_dr n kss (List.mem_of_getElem? hk)
      have s38 := s37.trans s8
      refine ⟨_, rfl, _, rfl, _, rfl, x, c', vs, gs, t, kss, rfl, s38 _ _ hx3, Paired.mapP hvs3 fun _ _ z => z.mono s38.tups, hgo, .inr ⟨zs, s38 _ _ hc', Paired.mapP hzs fun _ _ z => z.mono s38.tups, fun ks hks k hkk => by rw [hgl]; exact hdr.lt ks hks k hkk⟩, fun H9 s9 => ?_⟩
      have hb := hbound kss hdr
      refine ⟨_, rfl, _, _, rfl, rfl, _, rfl, ite2 (fun hh => absurd (of_decide_eq_true hh) (by omega)) fun _ => ?_⟩
      exact ⟨_, rfl, s8.trans s9⟩
    · rintro σ H8 ⟨v7, rfl, s8⟩
      exact q _
end
end K56
set_option Elab.async false
set_option linter.all false
set_option maxRecDepth 100000
namespace K56
open PySem L2
theorem all_mk {l : PySem.W.OpenLaw} {w : World} {K : PySem.W.Frag} {h : Heap} {mg : Str → Option Value} {fa : Addr} (X : K.In h) (G : h.Ns mainGlobals mg) (hfa : mg "law" = some (.ref fa))
    {f0 : Addr} {od0 an0 : Option Addr} {sl0 : Array (Option Value)} {oc0 kV0 dc0 pm0 cd0 ct0 : Value}
    {f1 : Addr} {od1 an1 : Option Addr} {sl1 : Array (Option Value)} {oc1 kV1 dc1 pm1 cd1 ct1 : Value}
    {f2 : Addr} {od2 an2 : Option Addr} {sl2 : Array (Option Value)} {oc2 kV2 dc2 pm2 cd2 ct2 : Value}
    {f3 : Addr} {od3 an3 : Option Addr} {sl3 : Array (Option Value)} {oc3 kV3 dc3 pm3 cd3 ct3 : Value}
    {f4 : Addr} {od4 an4 : Option Addr} {sl4 : Array (Option Value)} {oc4 kV4 dc4 pm4 cd4 ct4 : Value}
    {f5 : Addr} {od5 an5 : Option Addr} {sl5 : Array (Option Value)} {oc5 kV5 dc5 pm5 cd5 ct5 : Value}
    {f6 : Addr} {od6 an6 : Option Addr} {sl6 : Array (Option Value)} {oc6 kV6 dc6 pm6 cd6 ct6 : Value}
    {f7 : Addr} {od7 an7 : Option Addr} {sl7 : Array (Option Value)} {oc7 kV7 dc7 pm7 cd7 ct7 : Value}
    {f8 : Addr} {od8 an8 : Option Addr} {sl8 : Array (Option Value)} {oc8 kV8 dc8 pm8 cd8 ct8 : Value}
    {f9 : Addr} {od9 an9 : Option Addr} {sl9 : Array (Option Value)} {oc9 kV9 dc9 pm9 cd9 ct9 : Value}
    {f10 : Addr} {od10 an10 : Option Addr} {sl10 : Array (Option Value)} {oc10 kV10 dc10 pm10 cd10 ct10 : Value}
    {f11 : Addr} {od11 an11 : Option Addr} {sl11 : Array (Option Value)} {oc11 kV11 dc11 pm11 cd11 ct11 : Value}
    {f12 : Addr} {od12 an12 : Option Addr} {sl12 : Array (Option Value)} {oc12 kV12 dc12 pm12 cd12 ct12 : Value}
    {f13 : Addr} {od13 an13 : Option Addr} {sl13 : Array (Option Value)} {oc13 kV13 dc13 pm13 cd13 ct13 : Value}
    {f14 : Addr} {od14 an14 : Option Addr} {sl14 : Array (Option Value)} {oc14 kV14 dc14 pm14 cd14 ct14 : Value}
    {f15 : Addr} {od15 an15 : Option Addr} {sl15 : Array (Option Value)} {oc15 kV15 dc15 pm15 cd15 ct15 : Value}
    {f16 : Addr} {od16 an16 : Option Addr} {sl16 : Array (Option Value)} {oc16 kV16 dc16 pm16 cd16 ct16 : Value}
    {tk0 : Tok}
    (a0 : PySem.W.nsIn K mainGlobals "price" = some (some (.ref f0))) (l0 : K.lookup f0 = some ⟨oc0, od0, .func (PySem.W.fnOf "price" "price" (defArgs s_price) (defBody s_price) (defScope s_price) .none kV0 dc0 pm0 an0 cd0 ct0), sl0⟩) (c0 : PySem.W.codeIn K cd0 "price" = true) (k0 : PySem.W.keepIn K (.ref f0) = true)
    (a1 : PySem.W.nsIn K mainGlobals "pack_price" = some (some (.ref f1))) (l1 : K.lookup f1 = some ⟨oc1, od1, .func (PySem.W.fnOf "pack_price" "pack_price" (defArgs s_pack_price) (defBody s_pack_price) (defScope s_pack_price) .none kV1 dc1 pm1 an1 cd1 ct1), sl1⟩) (c1 : PySem.W.codeIn K cd1 "pack_price" = true) (k1 : PySem.W.keepIn K (.ref f1) = true)
    (a2 : PySem.W.nsIn K mainGlobals "numbers_in" = some (some (.ref f2))) (l2 : K.lookup f2 = some ⟨oc2, od2, .func (PySem.W.fnOf "numbers_in" "numbers_in" (defArgs s_numbers_in) (defBody s_numbers_in) (defScope s_numbers_in) .none kV2 dc2 pm2 an2 cd2 ct2), sl2⟩) (c2 : PySem.W.codeIn K cd2 "numbers_in" = true) (k2 : PySem.W.keepIn K (.ref f2) = true)
    (a3 : PySem.W.nsIn K mainGlobals "cheapest" = some (some (.ref f3))) (l3 : K.lookup f3 = some ⟨oc3, od3, .func (PySem.W.fnOf "cheapest" "cheapest" (defArgs s_cheapest) (defBody s_cheapest) (defScope s_cheapest) .none kV3 dc3 pm3 an3 cd3 ct3), sl3⟩) (c3 : PySem.W.codeIn K cd3 "cheapest" = true) (k3 : PySem.W.keepIn K (.ref f3) = true)
    (a4 : PySem.W.nsIn K mainGlobals "best_packs" = some (some (.ref f4))) (l4 : K.lookup f4 = some ⟨oc4, od4, .func (PySem.W.fnOf "best_packs" "best_packs" (defArgs s_best_packs) (defBody s_best_packs) (defScope s_best_packs) .none kV4 dc4 pm4 an4 cd4 ct4), sl4⟩) (c4 : PySem.W.codeIn K cd4 "best_packs" = true) (k4 : PySem.W.keepIn K (.ref f4) = true)
    (a5 : PySem.W.nsIn K mainGlobals "first_packs" = some (some (.ref f5))) (l5 : K.lookup f5 = some ⟨oc5, od5, .func (PySem.W.fnOf "first_packs" "first_packs" (defArgs s_first_packs) (defBody s_first_packs) (defScope s_first_packs) .none kV5 dc5 pm5 an5 cd5 ct5), sl5⟩) (c5 : PySem.W.codeIn K cd5 "first_packs" = true) (k5 : PySem.W.keepIn K (.ref f5) = true)
    (a6 : PySem.W.nsIn K mainGlobals "least_cut" = some (some (.ref f6))) (l6 : K.lookup f6 = some ⟨oc6, od6, .func (PySem.W.fnOf "least_cut" "least_cut" (defArgs s_least_cut) (defBody s_least_cut) (defScope s_least_cut) .none kV6 dc6 pm6 an6 cd6 ct6), sl6⟩) (c6 : PySem.W.codeIn K cd6 "least_cut" = true) (k6 : PySem.W.keepIn K (.ref f6) = true)
    (a7 : PySem.W.nsIn K mainGlobals "_law_cell_at" = some (some (.ref f7))) (l7 : K.lookup f7 = some ⟨oc7, od7, .func (PySem.W.fnOf "_law_cell_at" "_law_cell_at" (defArgs s_law_cell_at) (defBody s_law_cell_at) (defScope s_law_cell_at) .none kV7 dc7 pm7 an7 cd7 ct7), sl7⟩) (c7 : PySem.W.codeIn K cd7 "_law_cell_at" = true) (k7 : PySem.W.keepIn K (.ref f7) = true)
    (a8 : PySem.W.nsIn K mainGlobals "_law_whole" = some (some (.ref f8))) (l8 : K.lookup f8 = some ⟨oc8, od8, .func (PySem.W.fnOf "_law_whole" "_law_whole" (defArgs s_law_whole) (defBody s_law_whole) (defScope s_law_whole) .none kV8 dc8 pm8 an8 cd8 ct8), sl8⟩) (c8 : PySem.W.codeIn K cd8 "_law_whole" = true) (k8 : PySem.W.keepIn K (.ref f8) = true)
    (a9 : PySem.W.nsIn K mainGlobals "_law_mixed" = some (some (.ref f9))) (l9 : K.lookup f9 = some ⟨oc9, od9, .func (PySem.W.fnOf "_law_mixed" "_law_mixed" (defArgs s_law_mixed) (defBody s_law_mixed) (defScope s_law_mixed) .none kV9 dc9 pm9 an9 cd9 ct9), sl9⟩) (c9 : PySem.W.codeIn K cd9 "_law_mixed" = true) (k9 : PySem.W.keepIn K (.ref f9) = true)
    (a10 : PySem.W.nsIn K mainGlobals "_law_groups" = some (some (.ref f10))) (l10 : K.lookup f10 = some ⟨oc10, od10, .func (PySem.W.fnOf "_law_groups" "_law_groups" (defArgs s_law_groups) (defBody s_law_groups) (defScope s_law_groups) .none kV10 dc10 pm10 an10 cd10 ct10), sl10⟩) (c10 : PySem.W.codeIn K cd10 "_law_groups" = true) (k10 : PySem.W.keepIn K (.ref f10) = true)
    (a11 : PySem.W.nsIn K mainGlobals "_law_toll" = some (some (.ref f11))) (l11 : K.lookup f11 = some ⟨oc11, od11, .func (PySem.W.fnOf "_law_toll" "_law_toll" (defArgs s_law_toll) (defBody s_law_toll) (defScope s_law_toll) .none kV11 dc11 pm11 an11 cd11 ct11), sl11⟩) (c11 : PySem.W.codeIn K cd11 "_law_toll" = true) (k11 : PySem.W.keepIn K (.ref f11) = true)
    (a12 : PySem.W.nsIn K mainGlobals "_law_ones" = some (some (.ref f12))) (l12 : K.lookup f12 = some ⟨oc12, od12, .func (PySem.W.fnOf "_law_ones" "_law_ones" (defArgs s_law_ones) (defBody s_law_ones) (defScope s_law_ones) .none kV12 dc12 pm12 an12 cd12 ct12), sl12⟩) (c12 : PySem.W.codeIn K cd12 "_law_ones" = true) (k12 : PySem.W.keepIn K (.ref f12) = true)
    (a13 : PySem.W.nsIn K mainGlobals "_law_paid" = some (some (.ref f13))) (l13 : K.lookup f13 = some ⟨oc13, od13, .func (PySem.W.fnOf "_law_paid" "_law_paid" (defArgs s_law_paid) (defBody s_law_paid) (defScope s_law_paid) .none kV13 dc13 pm13 an13 cd13 ct13), sl13⟩) (c13 : PySem.W.codeIn K cd13 "_law_paid" = true) (k13 : PySem.W.keepIn K (.ref f13) = true)
    (a14 : PySem.W.nsIn K mainGlobals "_law_is_cut" = some (some (.ref f14))) (l14 : K.lookup f14 = some ⟨oc14, od14, .func (PySem.W.fnOf "_law_is_cut" "_law_is_cut" (defArgs s_law_is_cut) (defBody s_law_is_cut) (defScope s_law_is_cut) .none kV14 dc14 pm14 an14 cd14 ct14), sl14⟩) (c14 : PySem.W.codeIn K cd14 "_law_is_cut" = true) (k14 : PySem.W.keepIn K (.ref f14) = true)
    (a15 : PySem.W.nsIn K mainGlobals "_law_cuts" = some (some (.ref f15))) (l15 : K.lookup f15 = some ⟨oc15, od15, .func (PySem.W.fnOf "_law_cuts" "_law_cuts" (defArgs s_law_cuts) (defBody s_law_cuts) (defScope s_law_cuts) .none kV15 dc15 pm15 an15 cd15 ct15), sl15⟩) (c15 : PySem.W.codeIn K cd15 "_law_cuts" = true) (k15 : PySem.W.keepIn K (.ref f15) = true)
    (a16 : PySem.W.nsIn K mainGlobals "law" = some (some (.ref f16))) (l16 : K.lookup f16 = some ⟨oc16, od16, .func (PySem.W.fnOf "law" "law" (defArgs s_law) (defBody s_law) (defScope s_law) .none kV16 dc16 pm16 an16 cd16 ct16), sl16⟩) (c16 : PySem.W.codeIn K cd16 "law" = true) (k16 : PySem.W.keepIn K (.ref f16) = true)
    (z0 : PySem.W.nsIn K mainGlobals "len" = some none)
    (z1 : PySem.W.nsIn K mainGlobals "range" = some none)
    (z2 : PySem.W.nsIn K mainGlobals "str" = some none)
    (z3 : PySem.W.nsIn K mainGlobals "tuple" = some none)
    (z4 : PySem.W.nsIn K mainGlobals "list" = some none)
    (z5 : PySem.W.nsIn K mainGlobals "isinstance" = some none)
    (z6 : PySem.W.nsIn K mainGlobals "int" = some none)
    (z7 : PySem.W.nsIn K mainGlobals "bool" = some none)
    (z8 : PySem.W.nsIn K mainGlobals "min" = some none)
    (z9 : PySem.W.nsIn K mainGlobals "sum" = some none)
    (z10 : PySem.W.nsIn K mainGlobals "sorted" = some none)
    (gc0 : PySem.W.nsIn K mainGlobals "MOST_GROUPS" = some (some (.int 8 tk0))) :
    ∃ fd : FuncData, (∀ (s : Shared) (v : Value), BindsTo s fd ⟨[v], []⟩ [("_law_script", v)]) ∧ ∀ base : Heap, K.In base → base.Ns mainGlobals mg → FnOk l.prog w K mg base CX0 7 fa fd ["_law_script"] (spLaw K) := by
  have e := hfa.symm.trans (PySem.W.mg_of X G a16)
  cases e
  have T : Txt K mg := ⟨PySem.W.mg_none_of X G z0, PySem.W.mg_none_of X G z1, PySem.W.mg_none_of X G z2, PySem.W.mg_none_of X G z3, PySem.W.mg_none_of X G z4, PySem.W.mg_none_of X G z5, PySem.W.mg_none_of X G z6, PySem.W.mg_none_of X G z7, PySem.W.mg_none_of X G z8, PySem.W.mg_none_of X G z9, PySem.W.mg_none_of X G z10, ⟨_, PySem.W.mg_of X G gc0, ⟨_, rfl⟩⟩, hasDef_mk X G a0 l0 c0 k0, hasDef_mk X G a1 l1 c1 k1, hasDef_mk X G a2 l2 c2 k2, hasDef_mk X G a3 l3 c3 k3, hasDef_mk X G a4 l4 c4 k4, hasDef_mk X G a5 l5 c5 k5, hasDef_mk X G a6 l6 c6 k6, hasDef_mk X G a7 l7 c7 k7, hasDef_mk X G a8 l8 c8 k8, hasDef_mk X G a9 l9 c9 k9, hasDef_mk X G a10 l10 c10 k10, hasDef_mk X G a11 l11 c11 k11, hasDef_mk X G a12 l12 c12 k12, hasDef_mk X G a13 l13 c13 k13, hasDef_mk X G a14 l14 c14 k14, hasDef_mk X G a15 l15 c15 k15⟩
  exact ⟨_, fun s v => .of_eq rfl, fun base _ _ => law_fn (fun_mk (st := s_law) l16 c16 k16) T⟩
theorem walk {l : PySem.W.OpenLaw} {q : Program} {loose : List Str} {XP : (Str → Option Value) → Heap → Prop} {YP : World → Heap → Prop} {d : DefRec} {K : Params → PySem.W.Frag} (hn : l.most = some 63) (hdf : d.params.defaults = [])
    (hY : ∀ (w : World) (h : Heap), YP w h → (K w.params).In h)
    (F : ∀ (w : World) (mg : Str → Option Value) (fa : Addr) (h : Heap), (K w.params).In h → h.Ns mainGlobals mg → mg d.name = some (.ref fa) →
      ∃ fd : FuncData, (∀ (s : Shared) (u : Value), BindsTo s fd ⟨[u], []⟩ [("_law_script", u)]) ∧ ∀ base : Heap, (K w.params).In base → base.Ns mainGlobals mg → FnOk l.prog w (K w.params) mg base CX0 7 fa fd ["_law_script"] (spLaw (K w.params))) :
    PySem.W.WalkO q loose XP YP l.row.toRowW d [] (fun f vs => PySem.call f vs) :=
  L2.walk_of (n := 63) (k := 7) (x := "_law_script") (CX := fun _ => CX0) (sp := fun w => spLaw (K w.params)) hn (by decide) hdf ⟨rfl, by decide, by decide⟩ hY F (fun _ _ a ns hl _ hS => ⟨a, ns, rfl, hS, hl, fun _ => rfl⟩) fun _ _ _ _ _ z => z
end K56
open PySem PySem.W PyProof.Rows
set_option maxRecDepth 100000 in
set_option maxHeartbeats 0 in
theorem PySem.Challenge.cw_bundlehouse_k56_all_small_cuts_holds : PySem.Challenge.rw_bundlehouse_k56_all_small_cuts.Holds := by
  w_on; o_law; k_head; (case hw => w_witness2)
  k_fill
  refine K56.walk (l := PySem.Challenge.rw_bundlehouse_k56_all_small_cuts) rfl rfl (fun w h Y => PySem.W.kIn_of Y) ?F
  case F =>
    intro w mg fa h KX G hmg
    refine' K56.all_mk KX G hmg ?a0 ?l0 ?c0 ?k0 ?a1 ?l1 ?c1 ?k1 ?a2 ?l2 ?c2 ?k2 ?a3 ?l3 ?c3 ?k3 ?a4 ?l4 ?c4 ?k4 ?a5 ?l5 ?c5 ?k5 ?a6 ?l6 ?c6 ?k6 ?a7 ?l7 ?c7 ?k7 ?a8 ?l8 ?c8 ?k8 ?a9 ?l9 ?c9 ?k9 ?a10 ?l10 ?c10 ?k10 ?a11 ?l11 ?c11 ?k11 ?a12 ?l12 ?c12 ?k12 ?a13 ?l13 ?c13 ?k13 ?a14 ?l14 ?c14 ?k14 ?a15 ?l15 ?c15 ?k15 ?a16 ?l16 ?c16 ?k16 ?z0 ?z1 ?z2 ?z3 ?z4 ?z5 ?z6 ?z7 ?z8 ?z9 ?z10 ?gc0
    (case a0 => k_is); (case l0 => k_is); (case c0 => k_is); (case k0 => k_is)
    (case a1 => k_is); (case l1 => k_is); (case c1 => k_is); (case k1 => k_is)
    (case a2 => k_is); (case l2 => k_is); (case c2 => k_is); (case k2 => k_is)
    (case a3 => k_is); (case l3 => k_is); (case c3 => k_is); (case k3 => k_is)
    (case a4 => k_is); (case l4 => k_is); (case c4 => k_is); (case k4 => k_is)
    (case a5 => k_is); (case l5 => k_is); (case c5 => k_is); (case k5 => k_is)
    (case a6 => k_is); (case l6 => k_is); (case c6 => k_is); (case k6 => k_is)
    (case a7 => k_is); (case l7 => k_is); (case c7 => k_is); (case k7 => k_is)
    (case a8 => k_is); (case l8 => k_is); (case c8 => k_is); (case k8 => k_is)
    (case a9 => k_is); (case l9 => k_is); (case c9 => k_is); (case k9 => k_is)
    (case a10 => k_is); (case l10 => k_is); (case c10 => k_is); (case k10 => k_is)
    (case a11 => k_is); (case l11 => k_is); (case c11 => k_is); (case k11 => k_is)
    (case a12 => k_is); (case l12 => k_is); (case c12 => k_is); (case k12 => k_is)
    (case a13 => k_is); (case l13 => k_is); (case c13 => k_is); (case k13 => k_is)
    (case a14 => k_is); (case l14 => k_is); (case c14 => k_is); (case k14 => k_is)
    (case a15 => k_is); (case l15 => k_is); (case c15 => k_is); (case k15 => k_is)
    (case a16 => k_is); (case l16 => k_is); (case c16 => k_is); (case k16 => k_is)
    (case z0 => k_is); (case z1 => k_is); (case z2 => k_is); (case z3 => k_is); (case z4 => k_is); (case z5 => k_is); (case z6 => k_is); (case z7 => k_is); (case z8 => k_is); (case z9 => k_is); (case z10 => k_is)
    (case gc0 => k_is)