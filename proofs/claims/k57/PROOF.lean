import PyProof.Rows.All
import Wide.All
import OpenK.AllK
import Wide.FinOn
import Lean
import PyProof.EqAt
import PyProof.EqKinds
import PyProof.TupleCall
import PySem.Challenge.RW_bundlehouse_k57_many_groups
set_option Elab.async false
set_option linter.all false
set_option maxRecDepth 100000
namespace L2
open PySem PySem.Spec PyProof.Rows
abbrev Key := Sum Int Str
def keyIs : Key → Value → Bool
  | .inl k, v => Value.isInt k v
  | .inr x, v => Value.isStrOf x v
def keyH (w : World) : Key → Int
  | .inl k => hashInt k
  | .inr x => hashStr w x
theorem keyIs_shape : ∀ {k : Key} {v : Value}, keyIs k v = true → (∃ i t, k = Sum.inl i ∧ v = Value.int i t) ∨ (∃ x t, k = Sum.inr x ∧ v = Value.str x t)
  | .inl i, v, h => by
    obtain ⟨t, e⟩ := Value.isInt_shape (k := i) (v := v) h
    exact .inl ⟨i, t, rfl, e⟩
  | .inr x, v, h => by
    obtain ⟨t, e⟩ := Value.isStrOf_shape (x := x) (v := v) h
    exact .inr ⟨x, t, rfl, e⟩
theorem key_ll (a b : Int) : decide ((Sum.inl a : Key) = Sum.inl b) = (a == b) := by
  by_cases e : a = b
  · subst e; simp
  · have h : ¬ (Sum.inl a : Key) = Sum.inl b := fun q => e (Sum.inl.inj q)
    rw [decide_eq_false h]
    exact (beq_eq_false_iff_ne.mpr e).symm
theorem key_rr (a b : Str) : decide ((Sum.inr a : Key) = Sum.inr b) = decide (a = b) := by
  by_cases e : a = b
  · subst e; simp
  · have h : ¬ (Sum.inr a : Key) = Sum.inr b := fun q => e (Sum.inr.inj q)
    rw [decide_eq_false h, decide_eq_false e]
theorem key_lr (a : Int) (b : Str) : decide ((Sum.inl a : Key) = Sum.inr b) = false := decide_eq_false (fun q => nomatch q)
theorem key_rl (a : Str) (b : Int) : decide ((Sum.inr a : Key) = Sum.inl b) = false := decide_eq_false (fun q => nomatch q)
def mixKind (prog : Program) (w : World) : PySem.KeyKind prog w Key where
  is := keyIs
  hash := keyH w
  inj := fun v a b ha hb => by
    rcases keyIs_shape ha with ⟨i, t, rfl, rfl⟩ | ⟨x, t, rfl, rfl⟩
    · rcases keyIs_shape hb with ⟨j, u, rfl, e⟩ | ⟨y, u, rfl, e⟩
      · injection e with e1 _; rw [e1]
      · exact nomatch e
    · rcases keyIs_shape hb with ⟨j, u, rfl, e⟩ | ⟨y, u, rfl, e⟩
      · exact nomatch e
      · injection e with e1 _; rw [e1]
  byValue := fun k v h => by
    rcases keyIs_shape h with ⟨i, t, rfl, rfl⟩ | ⟨x, t, rfl, rfl⟩ <;> rfl
  pyHash := fun hv h => by
    rcases keyIs_shape hv with ⟨i, t, rfl, rfl⟩ | ⟨x, t, rfl, rfl⟩
    · exact wpAny_pyHash_int h
    · exact wpAny_pyHash_str h
  eqBool := fun hu hv h => by
    rcases keyIs_shape hu with ⟨i, t, rfl, rfl⟩ | ⟨x, t, rfl, rfl⟩
    · rcases keyIs_shape hv with ⟨j, u, rfl, rfl⟩ | ⟨y, u, rfl, rfl⟩
      · rw [key_ll] at h; exact wpAny_eqBool_int h
      · rw [key_lr] at h; exact SeqAt.EqAt.int_str i t y u _ _ _ _ h
    · rcases keyIs_shape hv with ⟨j, u, rfl, rfl⟩ | ⟨y, u, rfl, rfl⟩
      · rw [key_rl] at h; exact SeqAt.EqAt.str_int x t j u _ _ _ _ h
      · rw [key_rr] at h; exact wpAny_eqBool_str h
  «strs» := fun k x t v h => by
    rcases keyIs_shape h with ⟨i, u, rfl, e⟩ | ⟨y, u, rfl, e⟩
    · exact nomatch e
    · injection e with e1 _
      subst e1
      cases v <;> rfl
end L2
namespace L2
open PySem PySem.Spec PyProof.Rows
inductive V where
  | non | bl (b : Bool) | int (i : Int) | str (x : Str) | byt (b : Array UInt8) | flt (b : UInt64) | ref (a : Addr) | ty (n : String)
  deriving DecidableEq
def RelV : V → Value → Prop
  | .non, u => u = Value.none
  | .bl b, u => u = Value.bool b
  | .int i, u => ∃ t, u = Value.int i t
  | .str x, u => ∃ t, u = Value.str x t
  | .byt b, u => ∃ t, u = Value.bytes b t
  | .flt b, u => ∃ t, u = Value.float b t
  | .ref a, u => u = Value.ref a
  | .ty n, u => u = Value.type n
abbrev Vals : List V → List Value → Prop := Paired RelV
theorem Vals.length {xs : List V} {us : List Value} (r : Vals xs us) : xs.length = us.length := Paired.length r
theorem Vals.get : ∀ {xs : List V} {us : List Value} {i : Nat} {x : V}, Vals xs us → xs[i]? = some x → ∃ u, us[i]? = some u ∧ RelV x u
  | _, _, _, _, .nil, e => by simp at e
  | _, _, 0, _, .cons r _, e => by simp at e; subst e; exact ⟨_, rfl, r⟩
  | _, _, i + 1, x, .cons _ t, e => by
    obtain ⟨u, h1, h2⟩ := Vals.get (i := i) (x := x) t (by simpa using e)
    exact ⟨u, by simpa using h1, h2⟩
theorem Vals.append : ∀ {xs ys : List V} {us ws : List Value}, Vals xs us → Vals ys ws → Vals (xs ++ ys) (us ++ ws)
  | _, _, _, _, .nil, s => s
  | _, _, _, _, .cons r t, s => .cons r (Vals.append t s)
theorem Vals.take : ∀ {xs : List V} {us : List Value} (n : Nat), Vals xs us → Vals (xs.take n) (us.take n)
  | _, _, 0, _ => .nil
  | _, _, _ + 1, .nil => .nil
  | _, _, n + 1, .cons r t => .cons r (Vals.take n t)
theorem Vals.drop : ∀ {xs : List V} {us : List Value} (n : Nat), Vals xs us → Vals (xs.drop n) (us.drop n)
  | _, _, 0, r => r
  | _, _, _ + 1, .nil => .nil
  | _, _, n + 1, .cons _ t => Vals.drop n t
def RelO : Option V → Option Value → Prop
  | some v, some u => RelV v u
  | none, none => True
  | _, _ => False
def KV {κ : Type} : List (κ × V) → List (κ × Value) → Prop := Paired fun (p : κ × V) (q : κ × Value) => p.1 = q.1 ∧ RelV p.2 q.2
def kV : Key → V
  | .inl i => .int i
  | .inr x => .str x
inductive HO where
  | lst (xs : List V)
  | tup (xs : List V)
  | dK (kvs : List (Key × V)) | dT (kvs : List (List Key × V))
  | set (S : Int → Bool) (n : Nat)
  | ins (C dx : Addr) (fs : List (Str × V))
  | own (x : Addr)
  | xd (fs : List (Str × V))
  | met (f x : Addr)
  | rng (lo hi : Int)
  | frz (o : Obj) (u : HO)
  | tbl (ps : Array Value)
  | ext (φ : Heap → Prop)
abbrev Hp := Addr → Option HO
def upd (H : Hp) (a : Addr) (o : HO) : Hp := fun b => if b = a then some o else H b
theorem upd_same {H : Hp} {a : Addr} {o : HO} : upd H a o a = some o := by unfold upd; rw [if_pos rfl]
theorem upd_ne {H : Hp} {a b : Addr} {o : HO} (h : b ≠ a) : upd H a o b = H b := by unfold upd; rw [if_neg h]
theorem ne_of {H : Hp} {a b : Addr} {o u : HO} (h : H a = some o) (h' : H b = some u) (d : o ≠ u) : a ≠ b := by
  intro e; subst e; rw [h] at h'; exact d (Option.some.inj h')
theorem ne_of_none {H : Hp} {a b : Addr} {o : HO} (h : H a = some o) (h' : H b = none) : a ≠ b := by
  intro e; subst e; rw [h] at h'; cases h'
section
variable (P : Program) (w : World)
def ObjOk (H : Hp) (h : Heap) (a : Addr) : HO → Prop
  | .lst xs => xs.length ≤ sizeLine ∧ ∃ (its : List Value) (n : Nat), Vals xs its ∧ h.get? a = some { cls := .type "list", data := .seq its.toArray n }
  | .tup xs => xs.length ≤ sizeLine ∧ ∃ its : List Value, Vals xs its ∧ IsTup h a its.toArray
  | .dK kvs => kvs.length ≤ sizeLine ∧ (a == sysModules) = false ∧ ∃ vs, KV kvs vs ∧ h.DictOf (mixKind P w) a vs
  | .dT kvs => kvs.length ≤ sizeLine ∧ (a == sysModules) = false ∧ ∃ xs : List (List Key × Addr × Value),
      Paired (fun (p : List Key × V) (q : List Key × Addr × Value) => p.1 = q.1 ∧ H q.2.1 = some (.tup (p.1.map kV)) ∧ RelV p.2 q.2.2) kvs xs ∧
      ∃ o es ep, h.get? a = some o ∧ o.ExactDict ∧ o.data = .dict es ep ∧ es.toList = xs.map (entryOfKey (tupleKind (mixKind P w))) ∧ (xs.map (·.1)).Nodup
  | .set S n => h.SetOf (intKind P w) a S n
  | .ins C dx fs => H dx = some (.own a) ∧ fs.length ≤ 1000 ∧ dx ≠ a ∧ h.get? a = some (PySem.W.instObj C dx) ∧
      ∃ mA, h.Ns1 dx mA ∧ (∀ f, RelO (fs.lookup f) (mA f)) ∧ PySem.Within mA (fs.map (·.1))
  | .own _ => ∃ o, h.get? a = some o
  | .xd fs => ∃ mA, h.Ns1 a mA ∧ ∀ f, RelO (fs.lookup f) (mA f)
  | .rng lo hi => ∃ t u v, h.get? a = some { cls := .type "range", data := .fields #[.int lo t, .int hi u, .int 1 v] }
  | .frz o u => h.get? a = some o ∧ ObjOk H h a u
  | .tbl ps => h.get? a = some { cls := .none, data := .fields ps }
  | .met f x => h.get? a = some (PySem.W.methodObj (.ref f) (.ref x))
  | .ext φ => φ h ∧ (∃ o, h.get? a = some o) ∧ ∀ h1 h2 : Heap, φ h1 → (∀ o, h1.get? a = some o → h2.get? a = some o) → φ h2
def HOk (H : Hp) (h : Heap) : Prop := ∀ a o, H a = some o → ObjOk P w H h a o
end
section
variable {P : Program} {w : World} {H H' : Hp} {h h' : Heap} {a : Addr} {o : HO}
theorem ObjOk.lt (x : ObjOk P w H h a o) : a < h.objs.size := by
  cases o with
  | lst xs => obtain ⟨_, _, _, _, e⟩ := x; exact Heap.lt_size e
  | tup xs => obtain ⟨_, _, _, p⟩ := x; exact p.lt
  | dK kvs => obtain ⟨_, _, _, _, o, _, _, e, _⟩ := x; exact Heap.lt_size e
  | dT kvs => obtain ⟨_, _, _, _, o, _, _, e, _⟩ := x; exact Heap.lt_size e
  | set S n => obtain ⟨o, _, _, _, e, _⟩ := x; exact Heap.lt_size e
  | ins C dx fs => obtain ⟨_, _, _, e, _⟩ := x; exact Heap.lt_size e
  | own y => obtain ⟨_, e⟩ := x; exact Heap.lt_size e
  | xd fs => obtain ⟨_, ⟨_, _, _, e, _⟩, _⟩ := x; exact Heap.lt_size e
  | rng lo hi => obtain ⟨_, _, _, e⟩ := x; exact Heap.lt_size e
  | frz ob u => obtain ⟨e, _⟩ := x; exact Heap.lt_size e
  | tbl ps => exact Heap.lt_size (show h.get? a = some _ from x)
  | met f y => exact Heap.lt_size (show h.get? a = some _ from x)
  | ext φ => obtain ⟨_, ⟨_, e⟩, _⟩ := x; exact Heap.lt_size e
theorem Paired.mapP {α β : Type} {F G : α → β → Prop} : ∀ {l₁ : List α} {l₂ : List β}, Paired F l₁ l₂ → (∀ a b, F a b → G a b) → Paired G l₁ l₂
  | _, _, .nil, _ => .nil
  | _, _, .cons r t, f => .cons (f _ _ r) (Paired.mapP t f)
theorem ObjOk.stay (x : ObjOk P w H h a o) (k : ∀ b u, (b = a ∨ H b = some (.own a)) → h.get? b = some u → h'.get? b = some u)
    (ho : ∀ b, H b = some (.own a) → H' b = some (.own a)) (ht : ∀ b xs, H b = some (.tup xs) → H' b = some (.tup xs)) : ObjOk P w H' h' a o := by
  induction o with
  | lst xs => obtain ⟨z, its, n, r, e⟩ := x; exact ⟨z, its, n, r, k _ _ (.inl rfl) e⟩
  | tup xs => obtain ⟨z, its, r, ob, e, c⟩ := x; exact ⟨z, its, r, ob, k _ _ (.inl rfl) e, c⟩
  | dK kvs => obtain ⟨z, y, vs, r, ob, es, ep, e, c⟩ := x; exact ⟨z, y, vs, r, ob, es, ep, k _ _ (.inl rfl) e, c⟩
  | dT kvs =>
    obtain ⟨z, y, xs, r, ob, es, ep, e, c⟩ := x
    exact ⟨z, y, xs, Paired.mapP r fun p q z => ⟨z.1, ht _ _ z.2.1, z.2.2⟩, ob, es, ep, k _ _ (.inl rfl) e, c⟩
  | set S n => obtain ⟨ob, es, ep, t, e, c⟩ := x; exact ⟨ob, es, ep, t, k _ _ (.inl rfl) e, c⟩
  | ins C dx fs =>
    obtain ⟨d, z, ne, e, mA, ⟨od, es, ep, e2, c⟩, r⟩ := x
    exact ⟨ho _ d, z, ne, k _ _ (.inl rfl) e, mA, ⟨od, es, ep, k _ _ (.inr d) e2, c⟩, r⟩
  | own y => obtain ⟨ob, e⟩ := x; exact ⟨ob, k _ _ (.inl rfl) e⟩
  | xd fs => obtain ⟨mA, ⟨od, es, ep, e, c⟩, r⟩ := x; exact ⟨mA, ⟨od, es, ep, k _ _ (.inl rfl) e, c⟩, r⟩
  | rng lo hi => obtain ⟨t, u, v, e⟩ := x; exact ⟨t, u, v, k _ _ (.inl rfl) e⟩
  | frz ob u ih => obtain ⟨e, q⟩ := x; exact ⟨k _ _ (.inl rfl) e, ih q⟩
  | tbl ps =>
    have e : h.get? a = some { cls := .none, data := .fields ps } := x
    show h'.get? a = some { cls := .none, data := .fields ps }
    exact k a _ (.inl rfl) e
  | met f y =>
    have e : h.get? a = some (PySem.W.methodObj (.ref f) (.ref y)) := x
    show h'.get? a = some (PySem.W.methodObj (.ref f) (.ref y))
    exact k a _ (.inl rfl) e
  | ext φ => obtain ⟨p, ⟨o, e⟩, st⟩ := x; exact ⟨st _ _ p fun o q => k _ _ (.inl rfl) q, ⟨o, k _ _ (.inl rfl) e⟩, st⟩
theorem HOk.lt (x : HOk P w H h) (e : H a = some o) : a < h.objs.size := (x a o e).lt
theorem HOk.fresh (x : HOk P w H h) (e : h.objs.size ≤ a) : H a = none := by
  cases q : H a with
  | none => rfl
  | some u => exact absurd (Nat.lt_of_lt_of_le (x.lt q) e) (Nat.lt_irrefl _)
theorem HOk.kept (x : HOk P w H h) (k : ∀ b u, h.get? b = some u → h'.get? b = some u) : HOk P w H h' := fun a o e =>
  (x a o e).stay (fun b u _ q => k b u q) (fun _ q => q) fun _ _ q => q
theorem HOk.laid (x : HOk P w H h) (k : ∀ b u, h.get? b = some u → h'.get? b = some u) (hp : h.objs.size ≤ a) (new : ObjOk P w (upd H a o) h' a o) : HOk P w (upd H a o) h' := fun b u e => by
  have hn := x.fresh hp
  by_cases hb : b = a
  · subst hb; rw [upd_same] at e; cases e; exact new
  · rw [upd_ne hb] at e
    exact (x b u e).stay (fun c v _ q => k c v q) (fun c q => by rw [upd_ne (ne_of_none q hn)]; exact q) fun c xs q => by rw [upd_ne (ne_of_none q hn)]; exact q
end
def Rd (H : Hp) (a : Addr) (u : HO) : Prop := H a = some u ∨ ∃ o, H a = some (.frz o u)
theorem Rd.ok {P : Program} {w : World} {H : Hp} {h : Heap} {a : Addr} {u : HO} (r : Rd H a u) (x : HOk P w H h) : ObjOk P w H h a u := by
  rcases r with r | ⟨o, r⟩
  · exact x a u r
  · obtain ⟨_, q⟩ := x a _ r
    exact q
def Mut : Option HO → Prop
  | some (.lst _) => True
  | some (.dK _) => True
  | some (.dT _) => True
  | some (.set _ _) => True
  | some (.ins _ _ _) => True
  | some (.ext _) => True
  | _ => False
section
variable {P : Program} {w : World} {H : Hp} {h h' : Heap} {x e : Addr} {o' : HO}
theorem HOk.write (ok : HOk P w H h) (mu : Mut (H x)) (he : e = x ∨ H e = some (.own x)) (k : ∀ b u, b ≠ e → h.get? b = some u → h'.get? b = some u) (heo : ∃ u, h'.get? e = some u)
    (new : ObjOk P w (upd H x o') h' x o') : HOk P w (upd H x o') h' := fun b u q => by
  have nown : ∀ c y, H c = some (.own y) → c ≠ x := fun c y r z => by subst z; rw [r] at mu; exact mu
  have ntup : ∀ c xs, H c = some (.tup xs) → c ≠ x := fun c xs r z => by subst z; rw [r] at mu; exact mu
  by_cases hb : b = x
  · subst hb; rw [upd_same] at q; cases q; exact new
  · rw [upd_ne hb] at q
    by_cases hbe : b = e
    · have q' : H b = some (.own x) := by
        rcases he with z | z
        · exact absurd (hbe.trans z) hb
        · rw [hbe]; exact z
      rw [q] at q'; cases q'
      obtain ⟨v, hv⟩ := heo
      exact ⟨v, by rw [hbe]; exact hv⟩
    · refine (ok b u q).stay (fun c v hc r => k c v ?_ r) (fun c r => by rw [upd_ne (nown c b r)]; exact r) fun c xs r => by rw [upd_ne (ntup c xs r)]; exact r
      rcases hc with rfl | hc
      · exact hbe
      · rintro rfl
        rcases he with z | z
        · exact nown c b hc z
        · rw [hc] at z; cases z; exact hb rfl
end
structure Un (fs ex : List Addr) (H H' : Hp) (h h' : Heap) : Prop where
  keep : ∀ b o, h.get? b = some o → H b = none → b ∉ fs → b ∉ ex → h'.get? b = some o
  slot : ∀ b o, h.get? b = some o → H b = none → b ∈ fs → b ∉ ex → ∃ sl, h'.get? b = some { o with slots := sl }
  free : ∀ b o, h.get? b = some o → H b = none → b ∉ ex → H' b = none
  there : ∀ b o, h.get? b = some o → b ∉ ex → ∃ o', h'.get? b = some o'
  tups : ∀ b xs, H b = some (.tup xs) → H' b = some (.tup xs)
  frzs : ∀ b o u, H b = some (.frz o u) → H' b = some (.frz o u)
  tbls : ∀ b ps, H b = some (.tbl ps) → ∃ more, H' b = some (.tbl (ps ++ more))
section
variable {fs fs' ex ex' : List Addr} {H H1 H2 : Hp} {h h1 h2 h' : Heap} {a x e : Addr} {o : HO}
theorem Un.any (u : Un fs ex H H1 h h1) {b : Addr} {ob : Obj} (q : h.get? b = some ob) (n : H b = none) (hx : b ∉ ex) : ∃ sl, h1.get? b = some { ob with slots := sl } := by
  by_cases hb : b ∈ fs
  · exact u.slot b ob q n hb hx
  · exact ⟨ob.slots, u.keep b ob q n hb hx⟩
theorem Un.kept (k : ∀ b u, h.get? b = some u → h'.get? b = some u) : Un fs ex H H h h' :=
  ⟨fun b ob q _ _ _ => k b ob q, fun b ob q _ _ _ => ⟨ob.slots, k b ob q⟩, fun _ _ _ n _ => n, fun b ob q _ => ⟨ob, k b ob q⟩, fun _ _ q => q, fun _ _ _ q => q, fun _ ps q => ⟨#[], by rw [q]; simp⟩⟩
theorem Un.refl : Un fs ex H H h h := Un.kept fun _ _ q => q
theorem Un.laid (k : ∀ b u, h.get? b = some u → h'.get? b = some u) (hp : h.objs.size ≤ a) (hn : H a = none) : Un fs ex H (upd H a o) h h' where
  keep := fun b u q _ _ _ => k b u q
  slot := fun b u q _ _ _ => ⟨u.slots, k b u q⟩
  free := fun b u q n _ => by rw [upd_ne (Nat.ne_of_lt (Nat.lt_of_lt_of_le (Heap.lt_size q) hp))]; exact n
  there := fun b u q _ => ⟨u, k b u q⟩
  tups := fun b xs q => by rw [upd_ne (ne_of_none q hn)]; exact q
  frzs := fun b u xs q => by rw [upd_ne (ne_of_none q hn)]; exact q
  tbls := fun b ps q => ⟨#[], by rw [upd_ne (ne_of_none q hn), q]; simp⟩
theorem Un.write (mu : Mut (H x)) (he : e = x ∨ H e = some (.own x)) (k : ∀ b u, b ≠ e → h.get? b = some u → h'.get? b = some u) (heo : ∃ u, h'.get? e = some u) : Un fs ex H (upd H x o) h h' := by
  have hx : ∀ b, H b = none → b ≠ x := fun b n z => by subst z; rw [n] at mu; exact mu
  have hb : ∀ b, H b = none → b ≠ e := fun b n z => by
    subst z
    rcases he with r | r
    · exact hx b n r
    · rw [n] at r; cases r
  have hm : ∀ b u, H b = some u → ¬ Mut (some u) → b ≠ x := fun b u q nm z => by subst z; rw [q] at mu; exact nm mu
  refine ⟨fun b u q n _ _ => k b u (hb b n) q, fun b u q n _ _ => ⟨u.slots, k b u (hb b n) q⟩, fun b u q n _ => by rw [upd_ne (hx b n)]; exact n, fun b u q _ => ?_,
    fun b xs q => by rw [upd_ne (hm b _ q fun z => z)]; exact q, fun b u xs q => by rw [upd_ne (hm b _ q fun z => z)]; exact q, fun b ps q => ⟨#[], by rw [upd_ne (hm b _ q fun z => z), q]; simp⟩⟩
  by_cases hbe : b = e
  · subst hbe; exact heo
  · exact ⟨u, k b u hbe q⟩
end
def trk (h : Heap) (H : Hp) : List Addr := (List.range h.objs.size).filter fun a => (H a).isSome
def hidT (h : Heap) (H : Hp) : Heap := PySem.W.hideAll h (trk h H)
theorem hidT_size (h : Heap) (H : Hp) : (hidT h H).objs.size = h.objs.size := PySem.W.hideAll_size _ _
theorem hidT_get {h : Heap} {H : Hp} {b : Addr} {o : Obj} (e : h.get? b = some o) (n : H b = none) : (hidT h H).get? b = some o :=
  PySem.W.hideAll_get _ e fun hm => by
    have q : (H b).isSome = true := (List.mem_filter.mp hm).2
    rw [n] at q; simp at q
theorem of_hidT {h : Heap} {H : Hp} {b : Addr} {o : Obj} (e : (hidT h H).get? b = some o) : h.get? b = some o ∧ H b = none := by
  have e' : h.get? b = some o := PySem.W.of_hideAll (trk h H) e
  refine ⟨e', ?_⟩
  cases q : H b with
  | none => rfl
  | some x =>
    have hm : b ∈ trk h H := List.mem_filter.mpr ⟨List.mem_range.mpr (Heap.lt_size e'), by simp [q]⟩
    have z : (hidT h H).get? b = none := PySem.W.hideAll_none (trk h H) hm
    rw [z] at e; cases e
end L2
namespace L2
open PySem PySem.Spec PyProof.Rows
structure Mod (K : PySem.W.Frag) (mg : Str → Option Value) (base : Heap) : Prop where
  kin : K.In base
  glob : base.Ns mainGlobals mg
  blt : ∃ mb, base.Ns builtinsNs mb ∧ ∀ x : Str, x ≠ "__name__" → mb x = bootBuiltins x
  nolimit : base.NoLimit
structure Cx where
  prog : Program
  w : World
  K : PySem.W.Frag
  mg : Str → Option Value
  base : Heap
  A : Around
  N : List Str
  s₀ : Shared
  H₀ : Hp
  env : Env
  outer : List Env
  stack : List Env
  ex : List Addr
  fn : Str → Bool
  calm : Bool
  pn : List (Addr × Obj)
  xe : Value → Shared → Prop
def frs (l : List Env) : List Addr := l.filterMap (·.frame)
abbrev Cx.fs (X : Cx) : List Addr := frs X.outer
def Vis (sc : Scope) (x : Str) : Prop := sc.names.lookup x = some .local ∨ sc.names.lookup x = some .cell ∨ sc.names.lookup x = some .free
def Loc (sc : Scope) (x : Str) : Prop := sc.names.lookup x = some .local ∨ sc.names.lookup x = some .cell
def Look (env : Env) (h : Heap) (m : Str → Option Value) (x : Str) (u : Value) : Prop :=
  (env.kindOf x = some .local ∧ m x = some u) ∨ ((env.kindOf x = some .cell ∨ env.kindOf x = some .free) ∧ ∃ c, env.cells.lookup x = some c ∧ h.IsCell c (some u))
structure Cx.Ok (X : Cx) : Prop where
  mod : Mod X.K X.mg X.base
  kind : X.env.scope.kind = .function
  glob : X.env.globals = mainGlobals
  blt : X.env.builtins = builtinsNs
  above : X.s₀.heap.objs.size ≤ X.env.locals
  inj : ∀ x y c, X.env.cells.lookup x = some c → X.env.cells.lookup y = some c → x = y
  has : ∀ x, (X.env.kindOf x = some .cell ∨ X.env.kindOf x = some .free) → ∃ c, X.env.cells.lookup x = some c
  cab : ∀ x c, X.fn x = true → X.env.cells.lookup x = some c → X.s₀.heap.objs.size ≤ c
  hd : X.calm = true → X.A.handled = none
  frames : X.A.frames = some X.stack
  stk : X.stack = X.outer ∨ (X.stack = X.env :: X.outer ∧ X.env.frame = some X.env.locals)
  exf : ∀ b ∈ X.ex, b ≠ X.env.locals ∧ ∀ x c, X.env.cells.lookup x = some c → c ≠ b
  bs : ∀ b o, X.base.get? b = some o → X.s₀.heap.get? b = some o ∧ X.H₀ b = none
  bsz : X.base.objs.size ≤ X.s₀.heap.objs.size
  noex : ∀ b o, X.base.get? b = some o → b ∉ X.ex
  exfs : ∀ b ∈ X.ex, b ∉ X.fs
  funs : X.s₀.heap.FunFrames X.base X.outer
  frf : ∀ b ∈ X.fs, X.H₀ b = none
structure Inv (X : Cx) (pins : List (Addr × Obj)) (σ : List (Option V)) (H : Hp) (s : Shared) : Prop where
  ok : X.Ok
  os : s.os = X.s₀.os
  bare : AllBare s.gens
  base : Un X.fs X.ex X.H₀ H X.s₀.heap s.heap
  loc : ∃ m, s.heap.Ns X.env.locals m ∧ ∀ (i : Nat) (x : Str) (v : V), X.N[i]? = some x → σ[i]? = some (some v) → Vis X.env.scope x → ∃ u, RelV v u ∧ Look X.env s.heap m x u
  cell : ∀ x c, X.env.cells.lookup x = some c → ∃ v, s.heap.IsCell c v
  free : H X.env.locals = none
  freeC : ∀ x c, X.env.cells.lookup x = some c → H c = none
  pin : ∀ p ∈ X.pn ++ pins, s.heap.get? p.1 = some p.2 ∧ H p.1 = none ∧ p.1 ≠ X.env.locals ∧ p.1 ∉ X.fs ∧ ∀ v, p.2.data ≠ .cell v
  hok : HOk X.prog X.w H s.heap
  len : σ.length = X.N.length
section
variable {X : Cx} {pins : List (Addr × Obj)} {σ : List (Option V)} {H H' : Hp} {s : Shared} {h' : Heap}
theorem Cx.Ok.nofr (ok : X.Ok) {b : Addr} {o : Obj} (e : X.base.get? b = some o) : b ∉ X.fs := fun hb => by
  have := (ok.funs.mem hb).1
  rw [e] at this; cases this
theorem Inv.bs (I : Inv X pins σ H s) : ∀ b o, X.base.get? b = some o → s.heap.get? b = some o ∧ H b = none := fun b o e =>
  ⟨I.base.keep b o (I.ok.bs b o e).1 (I.ok.bs b o e).2 (I.ok.nofr e) (I.ok.noex b o e), I.base.free b o (I.ok.bs b o e).1 (I.ok.bs b o e).2 (I.ok.noex b o e)⟩
theorem Inv.bk (I : Inv X pins σ H s) : ∀ b o, X.base.get? b = some o → s.heap.get? b = some o := fun b o e => (I.bs b o e).1
theorem Inv.mod (I : Inv X pins σ H s) : Mod X.K X.mg X.base := I.ok.mod
theorem Inv.kIn (I : Inv X pins σ H s) : X.K.In s.heap := I.ok.mod.kin.keeps I.bk
theorem Inv.lt (I : Inv X pins σ H s) : X.env.locals < s.heap.objs.size := let ⟨_, hn, _⟩ := I.loc; hn.lt
theorem Inv.sz (I : Inv X pins σ H s) : X.s₀.heap.objs.size ≤ s.heap.objs.size := Nat.le_trans I.ok.above (Nat.le_of_lt I.lt)
theorem Inv.nofs (I : Inv X pins σ H s) {a : Addr} (h : s.heap.objs.size ≤ a) : a ∉ X.fs := fun hb => by
  obtain ⟨_, o, ho, _⟩ := I.ok.funs.mem hb
  exact absurd (Nat.lt_of_lt_of_le (Heap.lt_size ho) (Nat.le_trans I.sz h)) (Nat.lt_irrefl _)
theorem Inv.cne (I : Inv X pins σ H s) : ∀ x c, X.env.cells.lookup x = some c → c ≠ X.env.locals := fun x c e z => by
  obtain ⟨v, o, ho, hd⟩ := I.cell x c e
  obtain ⟨m, ⟨o', es, ep, ho', hd', _⟩, _⟩ := I.loc
  rw [z, ho'] at ho; cases ho; rw [hd'] at hd; cases hd
theorem Inv.funs (I : Inv X pins σ H s) : s.heap.FunFrames X.base X.outer := by
  have all : ∀ (l : List Env), (∀ b ∈ frs l, b ∈ X.fs) → X.s₀.heap.FunFrames X.base l → s.heap.FunFrames X.base l := by
    intro l
    induction l with
    | nil => intro _ _; trivial
    | cons env r ih =>
      intro hs hl
      obtain ⟨hk, ⟨L, o, hf, hn, ho, hd⟩, hr⟩ := hl
      have hL : L ∈ X.fs := hs L (by unfold frs; rw [List.filterMap_cons, hf]; exact List.mem_cons_self)
      obtain ⟨sl, e⟩ := I.base.slot L o ho (I.ok.frf L hL) hL fun z => I.ok.exfs L z hL
      exact ⟨hk, ⟨L, _, hf, hn, e, hd⟩, ih (fun b hb => hs b (by unfold frs; rw [List.filterMap_cons, hf]; exact List.mem_cons_of_mem _ hb)) hr⟩
  exact all X.outer (fun _ hb => hb) I.ok.funs
theorem Inv.stack (I : Inv X pins σ H s) : s.heap.FunFrames X.base X.stack := by
  rcases I.ok.stk with e | ⟨e, hf⟩
  · rw [e]; exact I.funs
  · rw [e]
    obtain ⟨m, hn, _⟩ := I.loc
    refine .cons (by rw [I.ok.kind]; decide) hf hn ?_ I.funs
    exact Heap.get?_none_of_le (Nat.le_trans I.ok.bsz I.ok.above)
theorem Inv.stkSub (I : Inv X pins σ H s) : ∀ b ∈ frs X.stack, b ∈ X.env.locals :: X.fs := fun b hb => by
  rcases I.ok.stk with e | ⟨e, hf⟩
  · rw [e] at hb; exact List.mem_cons_of_mem _ hb
  · rw [e] at hb
    unfold frs at hb
    rw [List.filterMap_cons, hf] at hb
    exact hb
theorem Inv.stkFree (I : Inv X pins σ H s) : ∀ b ∈ frs X.stack, H b = none := fun b hb => by
  rcases List.mem_cons.mp (I.stkSub b hb) with e | hb
  · rw [e]; exact I.free
  · obtain ⟨_, o, ho, _⟩ := I.ok.funs.mem hb
    exact I.base.free b o ho (I.ok.frf b hb) fun z => I.ok.exfs b z hb
theorem Inv.step {g' : Array GenState} {t' : Nat} {d' : Drawn} {ch : List Addr} (I : Inv X pins σ H s)
    (hch : ∀ b ∈ ch, (b ∈ X.ex ∨ X.s₀.heap.objs.size ≤ b) ∧ b ≠ X.env.locals ∧ (∀ x c, X.env.cells.lookup x = some c → c ≠ b) ∧ ∀ p ∈ X.pn ++ pins, p.1 ≠ b)
    (keep : ∀ b o, b ≠ X.env.locals → b ∉ X.fs → b ∉ ch → s.heap.get? b = some o → H b = none → h'.get? b = some o)
    (slot : ∀ b o, b ≠ X.env.locals → b ∈ X.fs → b ∉ ch → s.heap.get? b = some o → H b = none → ∃ sl, h'.get? b = some { o with slots := sl }) (free : ∀ b o, b ∉ ch → s.heap.get? b = some o → H b = none → H' b = none)
    (there : ∀ b o, b ∉ ch → s.heap.get? b = some o → ∃ o', h'.get? b = some o')
    (tups : ∀ b xs, H b = some (.tup xs) → H' b = some (.tup xs)) (frzs : ∀ b o u, H b = some (.frz o u) → H' b = some (.frz o u)) (tbls : ∀ b ps, H b = some (.tbl ps) → ∃ more, H' b = some (.tbl (ps ++ more)))
    (ns : ∀ m, s.heap.Ns X.env.locals m → h'.Ns X.env.locals m) (hok : HOk X.prog X.w H' h') (hg : AllBare g') :
    Inv X pins σ H' { s with heap := h', gens := g', drawn := d', toks := t' } := by
  have neL : ∀ b o, X.s₀.heap.get? b = some o → b ≠ X.env.locals := fun b o e => Nat.ne_of_lt (Nat.lt_of_lt_of_le (Heap.lt_size e) I.ok.above)
  have neC : ∀ b o, X.s₀.heap.get? b = some o → b ∉ X.ex → b ∉ ch := fun b o e hx hb => by
    rcases (hch b hb).1 with z | z
    · exact hx z
    · exact absurd (Nat.lt_of_lt_of_le (Heap.lt_size e) z) (Nat.lt_irrefl _)
  have cellK : ∀ x c, X.env.cells.lookup x = some c → ∀ v, s.heap.IsCell c v → h'.IsCell c v := fun x c e v ⟨o, ho, hd⟩ => by
    have nch : c ∉ ch := fun z => (hch c z).2.2.1 x c e rfl
    by_cases hc : c ∈ X.fs
    · obtain ⟨sl, q⟩ := slot c o (I.cne x c e) hc nch ho (I.freeC x c e)
      exact ⟨_, q, hd⟩
    · exact ⟨o, keep c o (I.cne x c e) hc nch ho (I.freeC x c e), hd⟩
  refine ⟨I.ok, I.os, hg, ⟨fun b o e n hb hx => ?_, fun b o e n hb hx => ?_, fun b o e n hx => ?_, fun b o e hx => ?_, fun b xs e => tups b xs (I.base.tups b xs e), fun b o xs e => frzs b o xs (I.base.frzs b o xs e), fun b ps e => ?_⟩, ?_, fun x c e => ?_, ?_, fun x c e => ?_, fun p hp => ?_, hok, I.len⟩
  · exact keep b o (neL b o e) hb (neC b o e hx) (I.base.keep b o e n hb hx) (I.base.free b o e n hx)
  · obtain ⟨sl, e1⟩ := I.base.slot b o e n hb hx
    obtain ⟨sl', e2⟩ := slot b _ (neL b o e) hb (neC b o e hx) e1 (I.base.free b o e n hx)
    exact ⟨sl', e2⟩
  · obtain ⟨o', e1⟩ := I.base.there b o e hx
    exact free b o' (neC b o e hx) e1 (I.base.free b o e n hx)
  · obtain ⟨o', e1⟩ := I.base.there b o e hx
    exact there b o' (neC b o e hx) e1
  · obtain ⟨m1, e1⟩ := I.base.tbls b ps e
    obtain ⟨m2, e2⟩ := tbls b _ e1
    exact ⟨m1 ++ m2, by rw [e2, Array.append_assoc]⟩
  · obtain ⟨m, hn, hl⟩ := I.loc
    refine ⟨m, ns m hn, fun i x v e1 e2 e3 => ?_⟩
    obtain ⟨u, r, l⟩ := hl i x v e1 e2 e3
    refine ⟨u, r, ?_⟩
    rcases l with l | ⟨k, c, e, z⟩
    · exact .inl l
    · exact .inr ⟨k, c, e, cellK x c e _ z⟩
  · obtain ⟨v, z⟩ := I.cell x c e
    exact ⟨v, cellK x c e v z⟩
  · obtain ⟨m, ⟨o, _, _, ho, _⟩, _⟩ := I.loc
    exact free _ o (fun z => (hch _ z).2.1 rfl) ho I.free
  · obtain ⟨v, o, ho, hd⟩ := I.cell x c e
    exact free c o (fun z => (hch c z).2.2.1 x c e rfl) ho (I.freeC x c e)
  · obtain ⟨e, n, ne, nf, d⟩ := I.pin p hp
    have nch : p.1 ∉ ch := fun z => (hch p.1 z).2.2.2 p hp rfl
    exact ⟨keep p.1 p.2 ne nf nch e n, free p.1 p.2 nch e n, ne, nf, d⟩
theorem Inv.un {t' : Nat} (I : Inv X pins σ H s) (u : Un X.fs [] H H' s.heap h') (hok : HOk X.prog X.w H' h') : Inv X pins σ H' { s with heap := h', toks := t' } := by
  obtain ⟨m, ⟨o, es, ep, ho, r⟩, _⟩ := id I.loc
  obtain ⟨sl, hL⟩ := u.any ho I.free (by simp)
  exact I.step (g' := s.gens) (d' := s.drawn) (ch := []) (fun _ z => nomatch z) (fun b o _ hb _ e n => u.keep b o e n hb (by simp)) (fun b o _ hb _ e n => u.slot b o e n hb (by simp)) (fun b o _ e n => u.free b o e n (by simp)) (fun b o _ e => u.there b o e (by simp)) u.tups u.frzs u.tbls (fun m' hm => by
    obtain ⟨o', es', ep', ho', r'⟩ := hm
    rw [ho] at ho'; cases ho'
    exact ⟨_, es', ep', hL, r'⟩) hok I.bare
theorem Inv.call {g' : Array GenState} {t' : Nat} {d' : Drawn} {ch : List Addr} (I : Inv X pins σ H s) (u : Un (frs X.stack) ch H H' s.heap h') (hok : HOk X.prog X.w H' h') (hg : AllBare g')
    (hch : ∀ b ∈ ch, (b ∈ X.ex ∨ X.s₀.heap.objs.size ≤ b) ∧ b ≠ X.env.locals ∧ (∀ x c, X.env.cells.lookup x = some c → c ≠ b) ∧ ∀ p ∈ X.pn ++ pins, p.1 ≠ b) :
    Inv X pins σ H' { s with heap := h', gens := g', drawn := d', toks := t' } := by
  obtain ⟨m, ⟨o, es, ep, ho, r⟩, _⟩ := id I.loc
  obtain ⟨sl, hL⟩ := u.any ho I.free fun z => (hch _ z).2.1 rfl
  exact I.step (ch := ch) hch (fun b o hL hb hc e n => u.keep b o e n (fun z => (List.mem_cons.mp (I.stkSub b z)).elim hL hb) hc) (fun b o _ _ hc e n => u.any e n hc) (fun b o hc e n => u.free b o e n hc) (fun b o hc e => u.there b o e hc) u.tups u.frzs u.tbls (fun m' hm => by
    obtain ⟨o', es', ep', ho', r'⟩ := hm
    rw [ho] at ho'; cases ho'
    exact ⟨_, es', ep', hL, r'⟩) hok hg
theorem Inv.turned {t' : Nat} {it : Addr} (I : Inv X pins σ H s) (k : ∀ b o, b ≠ it → s.heap.get? b = some o → h'.get? b = some o) (hn : H it = none) (hL : it ≠ X.env.locals)
    (h1 : it ∈ X.ex ∨ X.s₀.heap.objs.size ≤ it) (h2 : ∀ x c, X.env.cells.lookup x = some c → c ≠ it) (h3 : ∀ p ∈ X.pn ++ pins, p.1 ≠ it) : Inv X pins σ H { s with heap := h', toks := t' } := by
  have nit : ∀ b u, H b = some u → b ≠ it := fun b u e z => by rw [z, hn] at e; cases e
  refine I.step (g' := s.gens) (d' := s.drawn) (ch := [it]) (fun b hb => ?_) (fun b o _ _ hc e _ => k b o (fun z => hc (by simp [z])) e) (fun b o _ _ hc e _ => ⟨o.slots, k b o (fun z => hc (by simp [z])) e⟩) (fun _ _ _ _ n => n)
    (fun b o hc e => ⟨o, k b o (fun z => hc (by simp [z])) e⟩) (fun _ _ e => e) (fun _ _ _ e => e) (fun b ps e => ⟨#[], by rw [e]; simp⟩) (fun m hm => ?_) (fun b u e => ?_) I.bare
  · have e : b = it := by simpa using hb
    subst e
    exact ⟨h1, hL, h2, h3⟩
  · obtain ⟨o, es, ep, ho, r⟩ := hm
    exact ⟨o, es, ep, k _ o (Ne.symm hL) ho, r⟩
  · refine (I.hok b u e).stay (fun c v hc q => k c v ?_ q) (fun _ q => q) fun _ _ q => q
    rcases hc with z | z
    · rw [z]; exact nit b u e
    · exact nit c _ z
theorem Inv.tok (I : Inv X pins σ H s) (t : Nat) : Inv X pins σ H { s with toks := t } := I.un (h' := s.heap) (t' := t) Un.refl I.hok
theorem Inv.kept {t' : Nat} (I : Inv X pins σ H s) (k : ∀ b u, s.heap.get? b = some u → h'.get? b = some u) : Inv X pins σ H { s with heap := h', toks := t' } := I.un (Un.kept k) (I.hok.kept k)
theorem Inv.laid {a : Addr} {o : HO} {t' : Nat} (I : Inv X pins σ H s) (k : ∀ b u, s.heap.get? b = some u → h'.get? b = some u) (hp : s.heap.objs.size ≤ a) (new : ObjOk X.prog X.w (upd H a o) h' a o) :
    Inv X pins σ (upd H a o) { s with heap := h', toks := t' } := I.un (Un.laid k hp (I.hok.fresh hp)) (I.hok.laid k hp new)
theorem Inv.write {x e : Addr} {o : HO} {t' : Nat} (I : Inv X pins σ H s) (mu : Mut (H x)) (he : e = x ∨ H e = some (.own x)) (k : ∀ b u, b ≠ e → s.heap.get? b = some u → h'.get? b = some u) (heo : ∃ u, h'.get? e = some u)
    (new : ObjOk X.prog X.w (upd H x o) h' x o) : Inv X pins σ (upd H x o) { s with heap := h', toks := t' } := I.un (Un.write mu he k heo) (I.hok.write mu he k heo new)
theorem Inv.pins_of {pins' : List (Addr × Obj)} (I : Inv X pins σ H s) (h : ∀ p ∈ pins', s.heap.get? p.1 = some p.2 ∧ H p.1 = none ∧ p.1 ≠ X.env.locals ∧ p.1 ∉ X.fs ∧ ∀ v, p.2.data ≠ .cell v) : Inv X pins' σ H s :=
  ⟨I.ok, I.os, I.bare, I.base, I.loc, I.cell, I.free, I.freeC, fun p hp => (List.mem_append.mp hp).elim (fun z => I.pin p (List.mem_append_left _ z)) (h p), I.hok, I.len⟩
theorem nodup_ix {N : List Str} (hN : N.Nodup) {i j : Nat} {x : Str} (a : N[i]? = some x) (b : N[j]? = some x) : i = j := by
  obtain ⟨h1, e1⟩ := List.getElem?_eq_some_iff.mp a
  obtain ⟨h2, e2⟩ := List.getElem?_eq_some_iff.mp b
  exact (List.getElem_inj hN).mp (e1.trans e2.symm)
theorem store_ok2 {M : Model} {A : Around} {E : Value → Shared → Prop} {i : Nat} {x : Str} {v : V} {u : Value} {Q : Unit → Shared → Prop} (I : Inv X pins σ H s) (hN : X.N.Nodup) (hi : X.N[i]? = some x) (hx : Loc X.env.scope x) (r : RelV v u)
    (h : ∀ s', Inv X pins (σ.set i (some v)) H s' → (∃ a, Heap.SameBut a s.heap s'.heap ∧ (a = X.env.locals ∨ X.env.cells.lookup x = some a)) → Q () s') (hf : X.fn x = true ∨ X.env.scope.names.lookup x = some .local := by first | exact .inl rfl | exact .inr rfl | assumption) : wpAny M A (storeName X.env x u) Q E s := by
  obtain ⟨m, hn, hl⟩ := id I.loc
  have hcls : (X.env.scope.kind == .class || (X.env.scope.kind == .module && X.env.locals != X.env.globals)) = false := by rw [I.ok.kind]; rfl
  have hiσ : i < σ.length := by rw [I.len]; exact (List.getElem?_eq_some_iff.mp hi).1
  have cne := I.cne
  have tracked : ∀ {a : Addr} {h' : Heap}, (∃ o, s.heap.get? a = some o ∧ H a = none) → Heap.SameBut a s.heap h' → HOk X.prog X.w H h' := fun {a h'} ha hs b ob e => by
    obtain ⟨_, _, hfree⟩ := ha
    refine (I.hok b ob e).stay (fun c w' hc q => (hs.2 c ?_).trans q) (fun _ q => q) fun _ _ q => q
    rintro rfl
    rcases hc with rfl | hc
    · rw [hfree] at e; cases e
    · rw [hfree] at hc; cases hc
  rcases hx with hk | hk
  · refine wpAny_storeName_local hk hn (fun h' hn' hs => ?_) hcls
    obtain ⟨oL, _, _, hoL, _⟩ := id hn
    refine h _ ⟨I.ok, I.os, I.bare, ⟨fun b o e n hb hx => ?_, fun b o e n hb hx => ?_, I.base.free, fun b o e hx => ?_, I.base.tups, I.base.frzs, I.base.tbls⟩, ⟨_, hn', fun j y v' e1 e2 e3 => ?_⟩, fun y c e => ?_, I.free, I.freeC, fun p hp => ?_, tracked ⟨oL, hoL, I.free⟩ hs, by simpa using I.len⟩ ⟨_, hs, .inl rfl⟩
    · exact (hs.2 b (Nat.ne_of_lt (Nat.lt_of_lt_of_le (Heap.lt_size e) I.ok.above))).trans (I.base.keep b o e n hb hx)
    · obtain ⟨sl, e1⟩ := I.base.slot b o e n hb hx
      exact ⟨sl, (hs.2 b (Nat.ne_of_lt (Nat.lt_of_lt_of_le (Heap.lt_size e) I.ok.above))).trans e1⟩
    · obtain ⟨o', e1⟩ := I.base.there b o e hx
      exact ⟨o', (hs.2 b (Nat.ne_of_lt (Nat.lt_of_lt_of_le (Heap.lt_size e) I.ok.above))).trans e1⟩
    · by_cases hj : j = i
      · subst hj
        rw [hi] at e1; cases e1
        rw [List.getElem?_set_self hiσ] at e2
        cases e2
        exact ⟨u, r, .inl ⟨hk, by simp⟩⟩
      · rw [List.getElem?_set_ne (Ne.symm hj)] at e2
        obtain ⟨u', r', q⟩ := hl j y v' e1 e2 e3
        refine ⟨u', r', ?_⟩
        rcases q with ⟨k, e⟩ | ⟨k, c, e, z⟩
        · refine .inl ⟨k, ?_⟩
          have : y ≠ x := fun e => hj (nodup_ix hN e1 (e ▸ hi))
          simp [this, e]
        · exact .inr ⟨k, c, e, z.sameBut hs (cne y c e)⟩
    · obtain ⟨w', z⟩ := I.cell y c e
      exact ⟨w', z.sameBut hs (cne y c e)⟩
    · obtain ⟨e, n, ne, nf, d⟩ := I.pin p hp
      exact ⟨(hs.2 p.1 ne).trans e, n, ne, nf, d⟩
  · have hfn : X.fn x = true := by
      rcases hf with z | z
      · exact z
      · rw [z] at hk; cases hk
    obtain ⟨c, hc⟩ := I.ok.has x (.inl hk)
    obtain ⟨w', z⟩ := I.cell x c hc
    refine wpAny_storeName_cell I.ok.kind hk hc z (fun h' hc' hs => ?_)
    obtain ⟨oc, hoc, hocd⟩ := id z
    refine h { s with heap := h' } ⟨I.ok, I.os, I.bare, ⟨fun b o e n hb hx => ?_, fun b o e n hb hx => ?_, I.base.free, fun b o e hx => ?_, I.base.tups, I.base.frzs, I.base.tbls⟩, ⟨m, hn.sameBut hs (Ne.symm (cne x c hc)), fun j y v' e1 e2 e3 => ?_⟩, fun y c' e => ?_, I.free, I.freeC, fun p hp => ?_, tracked ⟨oc, hoc, I.freeC x c hc⟩ hs, by simpa using I.len⟩ ⟨c, hs, .inr hc⟩
    · exact (hs.2 b (Nat.ne_of_lt (Nat.lt_of_lt_of_le (Heap.lt_size e) (I.ok.cab x c hfn hc)))).trans (I.base.keep b o e n hb hx)
    · obtain ⟨sl, e1⟩ := I.base.slot b o e n hb hx
      exact ⟨sl, (hs.2 b (Nat.ne_of_lt (Nat.lt_of_lt_of_le (Heap.lt_size e) (I.ok.cab x c hfn hc)))).trans e1⟩
    · obtain ⟨o', e1⟩ := I.base.there b o e hx
      exact ⟨o', (hs.2 b (Nat.ne_of_lt (Nat.lt_of_lt_of_le (Heap.lt_size e) (I.ok.cab x c hfn hc)))).trans e1⟩
    · by_cases hj : j = i
      · subst hj
        rw [hi] at e1; cases e1
        rw [List.getElem?_set_self hiσ] at e2
        cases e2
        exact ⟨u, r, .inr ⟨.inl hk, c, hc, hc'⟩⟩
      · rw [List.getElem?_set_ne (Ne.symm hj)] at e2
        obtain ⟨u', r', q⟩ := hl j y v' e1 e2 e3
        refine ⟨u', r', ?_⟩
        rcases q with q | ⟨k, c', e, z'⟩
        · exact .inl q
        · refine .inr ⟨k, c', e, z'.sameBut hs ?_⟩
          rintro rfl
          exact hj (nodup_ix hN e1 (I.ok.inj _ _ _ e hc ▸ hi))
    · by_cases hcc : c' = c
      · subst hcc; exact ⟨_, hc'⟩
      · obtain ⟨w2, z2⟩ := I.cell y c' e
        exact ⟨w2, z2.sameBut hs hcc⟩
    · obtain ⟨e, n, ne, nf, d⟩ := I.pin p hp
      refine ⟨(hs.2 p.1 ?_).trans e, n, ne, nf, d⟩
      intro q
      rw [q, hoc] at e
      have q' : oc = p.2 := Option.some.inj e
      exact d w' (by rw [← q']; exact hocd)
theorem store_ok {M : Model} {A : Around} {E : Value → Shared → Prop} {i : Nat} {x : Str} {v : V} {u : Value} {Q : Unit → Shared → Prop} (I : Inv X pins σ H s) (hN : X.N.Nodup) (hi : X.N[i]? = some x) (hx : Loc X.env.scope x) (r : RelV v u)
    (h : ∀ s', Inv X pins (σ.set i (some v)) H s' → Q () s') (hf : X.fn x = true ∨ X.env.scope.names.lookup x = some .local := by first | exact .inl rfl | exact .inr rfl | assumption) : wpAny M A (storeName X.env x u) Q E s :=
  store_ok2 I hN hi hx r (fun s' I' _ => h s' I') hf
theorem Inv.call' {s' : Shared} {ch : List Addr} (I : Inv X pins σ H s) (ho : s'.os = s.os) (u : Un (frs X.stack) ch H H' s.heap s'.heap) (hok : HOk X.prog X.w H' s'.heap) (hg : AllBare s'.gens)
    (hch : ∀ b ∈ ch, (b ∈ X.ex ∨ X.s₀.heap.objs.size ≤ b) ∧ b ≠ X.env.locals ∧ (∀ x c, X.env.cells.lookup x = some c → c ≠ b) ∧ ∀ p ∈ X.pn ++ pins, p.1 ≠ b) : Inv X pins σ H' s' := by
  obtain ⟨h', g', d', t', o'⟩ := s'
  have e : o' = s.os := ho
  subst e
  exact I.call (g' := g') (t' := t') (d' := d') u hok hg hch
end
abbrev XK := Value → Option Addr → Hp → Prop
abbrev St := List (Option V)
abbrev VK := V → Hp → Prop
abbrev TE := St → Hp → VK → Prop
abbrev TT := St → Hp → (Bool → Hp → Prop) → Prop
abbrev TA := St → Hp → (List V → Hp → Prop) → Prop
structure Ends where
  nx : St → Hp → Prop
  rt : VK
  bk : St → Hp → Prop := fun _ _ => False
  ct : St → Hp → Prop := fun _ _ => False
abbrev TS := Ends → St → Hp → Prop
def EP (X : Cx) (pins : List (Addr × Obj)) (σ : St) (Q : VK) (u : Value) (s' : Shared) : Prop := ∃ v H', Inv X pins σ H' s' ∧ RelV v u ∧ Q v H'
def TP (X : Cx) (pins : List (Addr × Obj)) (σ : St) (Q : Bool → Hp → Prop) (b : Bool) (s' : Shared) : Prop := ∃ H', Inv X pins σ H' s' ∧ Q b H'
def AP (X : Cx) (pins : List (Addr × Obj)) (σ : St) (Q : List V → Hp → Prop) (us : List Value) (s' : Shared) : Prop := ∃ vs H', Inv X pins σ H' s' ∧ Vals vs us ∧ Q vs H'
def SP (X : Cx) (pins : List (Addr × Obj)) (D : Ends) (f : Flow) (s' : Shared) : Prop :=
  match f with
  | .next => ∃ σ' H', Inv X pins σ' H' s' ∧ D.nx σ' H'
  | .brk => ∃ σ' H', Inv X pins σ' H' s' ∧ D.bk σ' H'
  | .cont => ∃ σ' H', Inv X pins σ' H' s' ∧ D.ct σ' H'
  | .ret u => ∃ v σ' H', Inv X pins σ' H' s' ∧ RelV v u ∧ D.rt v H'
def PE (X : Cx) (e : Expr) (t : TE) : Prop :=
  ∀ (pins : List (Addr × Obj)) (s : Shared) (σ : St) (H : Hp) (Q : VK), Inv X pins σ H s → t σ H Q → wpAny (model X.prog X.w) X.A (eval e X.env) (EP X pins σ Q) X.xe s
def PT (X : Cx) (e : Expr) (t : TT) : Prop :=
  ∀ (pins : List (Addr × Obj)) (s : Shared) (σ : St) (H : Hp) (Q : Bool → Hp → Prop), Inv X pins σ H s → t σ H Q → wpAny (model X.prog X.w) X.A (isTrue e X.env (eval e X.env)) (TP X pins σ Q) X.xe s
def PW (X : Cx) (e : Expr) (t : TT) : Prop :=
  ∀ (whole : Sem Value) (pins : List (Addr × Obj)) (s : Shared) (σ : St) (H : Hp) (Q : Bool → Hp → Prop), Inv X pins σ H s → t σ H Q → wpAny (model X.prog X.w) X.A (isTrue e X.env whole) (TP X pins σ Q) X.xe s
theorem PW.pt {X : Cx} {e : Expr} {t : TT} (h : PW X e t) : PT X e t := h _
def PA (X : Cx) (es : List Expr) (t : TA) : Prop :=
  ∀ (pos : Pos) (pins : List (Addr × Obj)) (s : Shared) (σ : St) (H : Hp) (Q : List V → Hp → Prop), Inv X pins σ H s → t σ H Q → wpAny (model X.prog X.w) X.A (spliced (backTo pos (starEach es X.env))) (AP X pins σ Q) X.xe s
def PS (X : Cx) (st : Stmt) (t : TS) : Prop :=
  ∀ (pins : List (Addr × Obj)) (s : Shared) (σ : St) (H : Hp) (D : Ends), Inv X pins σ H s → t D σ H → wpAny (model X.prog X.w) X.A (exec st X.env) (SP X pins D) X.xe s
def PSs (X : Cx) (st : List Stmt) (t : TS) : Prop :=
  ∀ (pins : List (Addr × Obj)) (s : Shared) (σ : St) (H : Hp) (D : Ends), Inv X pins σ H s → t D σ H → wpAny (model X.prog X.w) X.A (execs st X.env) (SP X pins D) X.xe s
theorem thn {α : Type} {t : Sem α} {Q Q' : α → Shared → Prop} {M : Model} {A : Around} {E : Value → Shared → Prop} {s : Shared} (h : wpAny M A t Q E s) (hQ : ∀ a s, Q a s → Q' a s) : wpAny M A t Q' E s := wpAny_mono h hQ fun _ _ x => x
end L2
namespace L2
open PySem PySem.Spec PyProof.Rows
section
variable {X : Cx}
def tVar (i : Nat) : TE := fun σ H Q => ∃ v, σ[i]? = some (some v) ∧ Q v H
def tC (v : V) : TE := fun _ H Q => Q v H
theorem pe_var {i : Nat} {x : Str} {pos : Pos} (hN : X.N[i]? = some x) (hv : Vis X.env.scope x) (hd : (x == ("__debug__" : Str)) = false := by decide) (hcd : (x == ("__classdict__" : Str)) = false := by decide) : PE X (.Name x pos) (tVar i) := by
  intro pins s σ H Q I h
  obtain ⟨v, e, h⟩ := h
  obtain ⟨m, hn, hl⟩ := I.loc
  obtain ⟨u, r, l⟩ := hl i x v hN e hv
  have fin : EP X pins σ Q u s := ⟨v, H, I, r, h⟩
  rcases l with ⟨hk, hm⟩ | ⟨hk, c, hc, hcell⟩
  · exact wpAny_Name (wpAny_loadName_local I.ok.kind hk hn hm fin) hd
  · rcases hk with hk | hk
    · exact wpAny_Name (wpAny_loadName_cell I.ok.kind hk hc hcell fin) hd
    · exact wpAny_Name (wpAny_loadName_free I.ok.kind hk hc hcell fin hcd) hd
theorem pe_int {i j pos} : PE X (.Constant (.int i) j pos) (tC (.int i)) := fun _ _ _ H _ I h => wpAny_Constant_int ⟨.int i, H, I.tok _, ⟨_, rfl⟩, h⟩
theorem pe_bl {b j pos} : PE X (.Constant (.bool b) j pos) (tC (.bl b)) := fun _ _ _ H _ I h => Constant_bool ⟨.bl b, H, I, rfl, h⟩
theorem pe_non {j pos} : PE X (.Constant .none j pos) (tC .non) := fun _ _ _ H _ I h => Constant_none ⟨.non, H, I, rfl, h⟩
theorem pe_str {x j pos} : PE X (.Constant (.str x) j pos) (tC (.str x)) := fun _ _ _ H _ I h => Calls.Constant_str ⟨.str x, H, I.tok _, ⟨_, rfl⟩, h⟩
def Gl (X : Cx) (x : Str) : Prop := X.env.kindOf x = some .globalImplicit
theorem ld_glob {E : Value → Shared → Prop} {pins : List (Addr × Obj)} {s : Shared} {σ : St} {H : Hp} {x : Str} {u : Value} {pos : Pos} {Q : Value → Shared → Prop} (I : Inv X pins σ H s) (hg : Gl X x) (hm : X.mg x = some u) (h : Q u s)
    (hd : (x == ("__debug__" : Str)) = false := by decide) : wpAny (model X.prog X.w) X.A (eval (.Name x pos) X.env) Q E s :=
  Calls.Name_function_global I.ok.kind hg (Calls.loadGlobal_global (by rw [I.ok.glob]; exact I.mod.glob.keeps I.bk) hm h) hd
theorem ld_blt {E : Value → Shared → Prop} {pins : List (Addr × Obj)} {s : Shared} {σ : St} {H : Hp} {x : Str} {u : Value} {pos : Pos} {Q : Value → Shared → Prop} (I : Inv X pins σ H s) (hg : Gl X x) (hm : X.mg x = none) (hv : bootBuiltins x = some u) (h : Q u s)
    (hn : x ≠ "__name__" := by decide) (hd : (x == ("__debug__" : Str)) = false := by decide) : wpAny (model X.prog X.w) X.A (eval (.Name x pos) X.env) Q E s := by
  obtain ⟨mb, h1, h2⟩ := I.mod.blt
  exact Calls.Name_function_global I.ok.kind hg (Calls.loadGlobal_builtin (by rw [I.ok.glob]; exact I.mod.glob.keeps I.bk) hm (by rw [I.ok.blt]; exact h1.keeps I.bk) ((h2 x hn).trans hv) h) hd
theorem pe_glob {x : Str} {v : V} {u : Value} {pos : Pos} (hg : Gl X x) (hm : X.mg x = some u) (r : RelV v u) (hd : (x == ("__debug__" : Str)) = false := by decide) : PE X (.Name x pos) (tC v) :=
  fun _ _ _ H _ I h => ld_glob I hg hm ⟨v, H, I, r, h⟩ hd
theorem pe_bltn {x : Str} {v : V} {u : Value} {pos : Pos} (hg : Gl X x) (hm : X.mg x = none) (hv : bootBuiltins x = some u) (r : RelV v u) (hn : x ≠ "__name__" := by decide) (hd : (x == ("__debug__" : Str)) = false := by decide) : PE X (.Name x pos) (tC v) :=
  fun _ _ _ H _ I h => ld_blt I hg hm hv ⟨v, H, I, r, h⟩ hn hd
variable {a b : Expr} {ta tb : TE} {pos : Pos}
def tB (t : TE) : TT := fun σ H Q => t σ H fun x H1 => ∃ c, x = .bl c ∧ Q c H1
theorem pt_val {e : Expr} {t : TE} (h : PE X e t) (he : ∀ whole, isTrue e X.env whole = (do let v ← whole; standAt e.pos; holding [v] (truthy v)) := by intro _; rfl) : PT X e (tB t) := by
  intro pins s σ H Q I hw
  refine isTrue_plain (thn (h pins s σ H _ I hw) fun v s1 ⟨x, H1, I1, r1, q1⟩ => ?_) (he _)
  obtain ⟨d, rfl, q⟩ := q1
  cases r1
  exact wpAny_truthy_bool ⟨H1, I1, q⟩
variable {tA tB' : TT} {rest : List Expr}
def tAnd (t u : TT) : TT := fun σ H Q => t σ H fun c H1 => if c = true then u σ H1 Q else Q false H1
def tOr (t u : TT) : TT := fun σ H Q => t σ H fun c H1 => if c = true then Q true H1 else u σ H1 Q
def tNot (t : TT) : TT := fun σ H Q => t σ H fun c H1 => Q (!c) H1
theorem pw_and1 (ha : PT X a tA) : PW X (.BoolOp .And [a] pos) tA := by
  intro wh pins s σ H Q I h
  refine isTrue_and (thn (ha pins s σ H Q I h) fun c s1 e => ?_)
  cases c with
  | true => exact isTrue_and_nil e
  | false => exact e
theorem pw_or1 (ha : PT X a tA) : PW X (.BoolOp .Or [a] pos) tA := by
  intro wh pins s σ H Q I h
  refine isTrue_or (thn (ha pins s σ H Q I h) fun c s1 e => ?_)
  cases c with
  | false => exact isTrue_or_nil e
  | true => exact e
theorem pw_and (ha : PT X a tA) (hb : PW X (.BoolOp .And (b :: rest) pos) tB') : PW X (.BoolOp .And (a :: b :: rest) pos) (tAnd tA tB') := by
  intro wh pins s σ H Q I h
  refine isTrue_and (thn (ha pins s σ H _ I h) fun c s1 ⟨H1, I1, q1⟩ => ?_)
  cases c with
  | true => exact hb wh pins s1 σ H1 Q I1 q1
  | false => exact ⟨H1, I1, q1⟩
theorem pw_or (ha : PT X a tA) (hb : PW X (.BoolOp .Or (b :: rest) pos) tB') : PW X (.BoolOp .Or (a :: b :: rest) pos) (tOr tA tB') := by
  intro wh pins s σ H Q I h
  refine isTrue_or (thn (ha pins s σ H _ I h) fun c s1 ⟨H1, I1, q1⟩ => ?_)
  cases c with
  | true => exact ⟨H1, I1, q1⟩
  | false => exact hb wh pins s1 σ H1 Q I1 q1
theorem pt_not (ha : PT X a tA) : PT X (.UnaryOp .Not a pos) (tNot tA) := by
  intro pins s σ H Q I h
  exact isTrue_not (ha pins s σ H (fun c H1 => Q (!c) H1) I h)
def tAndV (ta tb : TE) : TE := fun σ H Q => ta σ H fun x H1 => ∃ c, x = .bl c ∧ if c = true then tb σ H1 Q else Q (.bl false) H1
def tNotV (ta : TE) : TE := fun σ H Q => ta σ H fun x H1 => ∃ c, x = .bl c ∧ Q (.bl (!c)) H1
theorem pe_one {op} {t : TE} (h : PE X a t) : PE X (.BoolOp op [a] pos) t := fun pins s σ H Q I hw => BoolOp_one (h pins s σ H Q I hw)
theorem pe_and (ha : PE X a ta) (hb : PE X (.BoolOp .And (b :: rest) pos) tb) : PE X (.BoolOp .And (a :: b :: rest) pos) (tAndV ta tb) := by
  intro pins s σ H Q I h
  refine BoolOp_and (thn (ha pins s σ H _ I h) fun v s1 ⟨x, H1, I1, r1, q1⟩ => ?_)
  obtain ⟨c, rfl, q1⟩ := q1
  cases r1
  refine wpAny_truthy_bool ?_
  cases c with
  | true => exact hb pins s1 σ H1 Q I1 q1
  | false => exact ⟨.bl false, H1, I1, rfl, q1⟩
theorem pe_not (ha : PE X a ta) : PE X (.UnaryOp .Not a pos) (tNotV ta) := by
  intro pins s σ H Q I h
  refine UnaryOp_ (thn (ha pins s σ H _ I h) fun v s1 ⟨x, H1, I1, r1, q1⟩ => ?_)
  obtain ⟨c, rfl, q1⟩ := q1
  cases r1
  exact not_of (wpAny_truthy_bool ⟨.bl (!c), H1, I1, rfl, q1⟩)
end
end L2
namespace L2
open PySem PySem.Spec PyProof.Rows
def SqL (K : PySem.W.Frag) (H : Hp) (a : Addr) (xs : List V) : Prop :=
  Rd H a (.lst xs) ∨
    ∃ (o : Obj) (its : Array Value) (n : Nat), K.lookup a = some o ∧ o.cls = .type "list" ∧ o.dict = none ∧ o.data = .seq its n ∧ its.size ≤ sizeLine ∧ Vals xs its.toList
def SqT (K : PySem.W.Frag) (H : Hp) (a : Addr) (xs : List V) : Prop :=
  Rd H a (.tup xs) ∨
    ∃ (o : Obj) (its : Array Value) (n : Nat), K.lookup a = some o ∧ o.cls = .type "tuple" ∧ o.data = .seq its n ∧ its.size ≤ sizeLine ∧ Vals xs its.toList
def absV : Value → Option V
  | .none => some .non
  | .bool b => some (.bl b)
  | .int i _ => some (.int i)
  | .str x _ => some (.str x)
  | .bytes b _ => some (.byt b)
  | .float b _ => some (.flt b)
  | .ref a => some (.ref a)
  | .type n => some (.ty n)
  | _ => none
theorem RelV.abs {x : V} {u : Value} (r : RelV x u) : absV u = some x := by
  cases x with
  | non => cases r; rfl
  | bl _ => cases r; rfl
  | int _ => obtain ⟨t, rfl⟩ := r; rfl
  | str _ => obtain ⟨t, rfl⟩ := r; rfl
  | byt _ => obtain ⟨t, rfl⟩ := r; rfl
  | flt _ => obtain ⟨t, rfl⟩ := r; rfl
  | ref _ => cases r; rfl
  | ty _ => cases r; rfl
theorem RelV.inj {x y : V} {u : Value} (r : RelV x u) (q : RelV y u) : x = y := Option.some.inj (r.abs.symm.trans q.abs)
theorem Vals.inj : ∀ {xs ys : List V} {us : List Value}, Vals xs us → Vals ys us → xs = ys
  | _, _, _, .nil, .nil => rfl
  | _, _, _, .cons r t, .cons r' t' => by rw [r.inj r', Vals.inj t t']
section
variable {X : Cx} {pins : List (Addr × Obj)} {σ : St} {H : Hp} {s : Shared} {a : Addr} {xs ys : List V}
theorem SqL.of {K : PySem.W.Frag} (h : H a = some (.lst xs)) : SqL K H a xs := .inl (.inl h)
theorem SqT.of {K : PySem.W.Frag} (h : H a = some (.tup xs)) : SqT K H a xs := .inl (.inl h)
theorem Inv.list (I : Inv X pins σ H s) (h : SqL X.K H a xs) : ∃ its : List Value, Vals xs its ∧ PlainL s.heap a its.toArray ∧ xs.length ≤ sizeLine := by
  rcases h with h | ⟨o, its, n, hk, hc, hd, hs, hz, r⟩
  · obtain ⟨z, its, n, r, e⟩ := h.ok I.hok
    exact ⟨its, r, ⟨_, n, e, rfl, rfl, rfl⟩, z⟩
  · refine ⟨its.toList, r, ⟨o, n, I.kIn a o hk, hc, hd, by simpa using hs⟩, ?_⟩
    have e := r.length
    simp only [Array.length_toList] at e
    omega
theorem Inv.tuple (I : Inv X pins σ H s) (h : SqT X.K H a xs) : ∃ its : List Value, Vals xs its ∧ IsTup s.heap a its.toArray ∧ xs.length ≤ sizeLine := by
  rcases h with h | ⟨o, its, n, hk, hc, hs, hz, r⟩
  · obtain ⟨z, its, r, p⟩ := h.ok I.hok
    exact ⟨its, r, p, z⟩
  · refine ⟨its.toList, r, ⟨o, I.kIn a o hk, hc, n, by simpa using hs⟩, ?_⟩
    have e := r.length
    simp only [Array.length_toList] at e
    omega
theorem Inv.list_inj (I : Inv X pins σ H s) (h : SqL X.K H a xs) (h' : SqL X.K H a ys) : xs = ys := by
  obtain ⟨its, r, ⟨o, n, e, _, _, d⟩, _⟩ := I.list h
  obtain ⟨its', r', ⟨o', n', e', _, _, d'⟩, _⟩ := I.list h'
  rw [e] at e'; cases e'
  rw [d] at d'
  injection d' with d1 _
  have : its = its' := by simpa using congrArg Array.toList d1
  subst this
  exact r.inj r'
theorem Inv.tuple_inj (I : Inv X pins σ H s) (h : SqT X.K H a xs) (h' : SqT X.K H a ys) : xs = ys := by
  obtain ⟨its, r, ⟨o, e, _, n, d⟩, _⟩ := I.tuple h
  obtain ⟨its', r', ⟨o', e', _, n', d'⟩, _⟩ := I.tuple h'
  rw [e] at e'; cases e'
  rw [d] at d'
  injection d' with d1 _
  have : its = its' := by simpa using congrArg Array.toList d1
  subst this
  exact r.inj r'
end
abbrev Cx.wish (X : Cx) (E : Value → Shared → Prop) : Cx := { X with xe := E }
abbrev Cx.nox (X : Cx) : Cx := X.wish fun _ _ => False
theorem Cx.Ok.wish {X : Cx} (ok : X.Ok) (E : Value → Shared → Prop) : (X.wish E).Ok :=
  ⟨ok.mod, ok.kind, ok.glob, ok.blt, ok.above, ok.inj, ok.has, ok.cab, ok.hd, ok.frames, ok.stk, ok.exf, ok.bs, ok.bsz, ok.noex, ok.exfs, ok.funs, ok.frf⟩
theorem Cx.Ok.unwish {X : Cx} {E : Value → Shared → Prop} (ok : (X.wish E).Ok) : X.Ok :=
  ⟨ok.mod, ok.kind, ok.glob, ok.blt, ok.above, ok.inj, ok.has, ok.cab, ok.hd, ok.frames, ok.stk, ok.exf, ok.bs, ok.bsz, ok.noex, ok.exfs, ok.funs, ok.frf⟩
section
variable {X : Cx} {pins : List (Addr × Obj)} {σ : St} {H : Hp} {s : Shared} {E : Value → Shared → Prop}
theorem Inv.wish (I : Inv X pins σ H s) (E : Value → Shared → Prop) : Inv (X.wish E) pins σ H s := ⟨I.ok.wish E, I.os, I.bare, I.base, I.loc, I.cell, I.free, I.freeC, I.pin, I.hok, I.len⟩
theorem Inv.unwish (I : Inv (X.wish E) pins σ H s) : Inv X pins σ H s := ⟨I.ok.unwish, I.os, I.bare, I.base, I.loc, I.cell, I.free, I.freeC, I.pin, I.hok, I.len⟩
theorem SP.unwish {D : Ends} {f : Flow} {s' : Shared} (h : SP (X.wish E) pins D f s') : SP X pins D f s' := by
  cases f with
  | next => obtain ⟨σ', H', I, q⟩ := h; exact ⟨σ', H', I.unwish, q⟩
  | brk => obtain ⟨σ', H', I, q⟩ := h; exact ⟨σ', H', I.unwish, q⟩
  | cont => obtain ⟨σ', H', I, q⟩ := h; exact ⟨σ', H', I.unwish, q⟩
  | ret u => obtain ⟨v, σ', H', I, r, q⟩ := h; exact ⟨v, σ', H', I.unwish, r, q⟩
theorem PSs.nox {st : List Stmt} {t : TS} (h : PSs X.nox st t) : PSs X st t := fun pins s σ H D I hw =>
  wpAny_mono (h pins s σ H D (I.wish _) hw) (fun _ _ q => q.unwish) fun _ _ z => False.elim z
end
section
variable {X : Cx} {st : Stmt} {rest : List Stmt} {t u : TS} {e : Expr} {te : TE} {pos : Pos}
def tNext : TS := fun D σ H => D.nx σ H
def tSeq (t u : TS) : TS := fun D σ H => t { D with nx := u D } σ H
theorem pss_nil : PSs X [] tNext := fun _ _ σ H _ I h => wpAny_execs_nil ⟨σ, H, I, h⟩
theorem pss_cons (h1 : PS X st t) (h2 : PSs X rest u) : PSs X (st :: rest) (tSeq t u) := by
  intro pins s σ H D I h
  refine wpAny_execs_cons (thn (h1 pins s σ H { D with nx := u D } I h) fun f s1 q => ?_)
  cases f with
  | next =>
    obtain ⟨σ', H', I', q⟩ := q
    exact h2 pins s1 σ' H' D I' q
  | ret v => exact q
  | brk => exact q
  | cont => exact q
theorem pss_one (h1 : PS X st t) : PSs X [st] t := by
  intro pins s σ H D I h
  refine wpAny_execs_cons (thn (h1 pins s σ H D I h) fun f s1 q => ?_)
  cases f with
  | next => exact wpAny_execs_nil q
  | ret v => exact q
  | brk => exact q
  | cont => exact q
theorem Inv.quiet {pins : List (Addr × Obj)} {σ : St} {H : Hp} {s : Shared} (I : Inv X pins σ H s) : interactive X.env = false := by simp [interactive, I.ok.kind]
def tDrop (te : TE) : TS := fun D σ H => te σ H fun _ H1 => D.nx σ H1
theorem ps_expr (he : PE X e te) (hs : swapsWith e none pos.line X.env = pure false := by rfl) : PS X (.Expr e pos) (tDrop te) := by
  intro pins s σ H D I h
  exact wpAny_Expr_any (thn (he pins s σ H _ I h) fun v s1 ⟨x, H1, I1, r1, q1⟩ => ⟨σ, H1, I1, q1⟩) I.quiet hs
def tRet (te : TE) : TS := fun D σ H => te σ H D.rt
theorem ps_ret (he : PE X e te) : PS X (.Return (some e) pos) (tRet te) := by
  intro pins s σ H D I h
  exact wpAny_Return_some (thn (he pins s σ H _ I h) fun v s1 ⟨x, H1, I1, r1, q1⟩ => ⟨x, σ, H1, I1, r1, q1⟩)
def tIfS (c : TT) (t u : TS) : TS := fun D σ H => c σ H fun b H1 => if b = true then t D σ H1 else u D σ H1
theorem ps_if {c : Expr} {a b : List Stmt} {tc : TT} (hc : PT X c tc) (ha : PSs X a t) (hb : PSs X b u) : PS X (.If c a b pos) (tIfS tc t u) := by
  intro pins s σ H D I h
  refine wpAny_If (thn (hc pins s σ H _ I h) fun d s1 ⟨H1, I1, q1⟩ => ?_)
  cases d with
  | true => exact ha pins s1 σ H1 D I1 q1
  | false => exact hb pins s1 σ H1 D I1 q1
def tNever : TS := fun _ _ _ => False
theorem ps_never : PS X st tNever := fun _ _ _ _ _ _ h => h.elim
theorem pss_never {sts : List Stmt} : PSs X sts tNever := fun _ _ _ _ _ _ h => h.elim
end
abbrev TG := V → St → Hp → (St → Hp → Prop) → Prop
abbrev TGs := List V → St → Hp → (St → Hp → Prop) → Prop
def PG (X : Cx) (target : Expr) (t : TG) : Prop :=
  ∀ (pins : List (Addr × Obj)) (s : Shared) (σ : St) (H : Hp) (v : V) (u : Value) (Q : St → Hp → Prop), Inv X pins σ H s → RelV v u → t v σ H Q →
    wpAny (model X.prog X.w) X.A (assign target X.env u) (fun _ s' => ∃ σ' H', Inv X pins σ' H' s' ∧ Q σ' H') X.xe s
def PGs (X : Cx) (ts : List Expr) (t : TGs) : Prop :=
  ∀ (pins : List (Addr × Obj)) (s : Shared) (σ : St) (H : Hp) (vs : List V) (us : List Value) (Q : St → Hp → Prop), Inv X pins σ H s → Vals vs us → t vs σ H Q →
    wpAny (model X.prog X.w) X.A (assignInOrder ((assignEach ts X.env).map (·.2)) us) (fun _ s' => ∃ σ' H', Inv X pins σ' H' s' ∧ Q σ' H') X.xe s
abbrev TSet := V → V → V → Hp → (Hp → Prop) → Prop
abbrev TIp := V → V → Hp → VK → Prop
def PIp (X : Cx) (op : Operator) (t : TIp) : Prop :=
  ∀ (pins : List (Addr × Obj)) (s : Shared) (σ : St) (H : Hp) (x y : V) (v u : Value) (Q : VK), Inv X pins σ H s → RelV x v → RelV y u → t x y H Q →
    wpAny (model X.prog X.w) X.A (inplaceOp op v u) (EP X pins σ Q) X.xe s
section
variable {X : Cx} {pos : Pos}
def gName (i : Nat) : TG := fun v σ H Q => Q (σ.set i (some v)) H
theorem pg_name {i : Nat} {x : Str} (hN : X.N.Nodup) (hi : X.N[i]? = some x) (hx : Loc X.env.scope x) (hf : X.fn x = true ∨ X.env.scope.names.lookup x = some .local := by first | exact .inl rfl | exact .inr rfl | assumption) : PG X (.Name x pos) (gName i) := by
  intro pins s σ H v u Q I r h
  exact wpAny_assign_Name (store_ok I hN hi hx r (fun s' I' => ⟨_, H, I', h⟩) hf)
def gNil : TGs := fun vs σ H Q => vs = [] ∧ Q σ H
def gCons (t : TG) (u : TGs) : TGs := fun vs σ H Q => ∃ v r, vs = v :: r ∧ t v σ H fun σ' H' => u r σ' H' Q
theorem pgs_nil : PGs X [] gNil := by
  intro pins s σ H vs us Q I r h
  obtain ⟨e, h⟩ := h
  subst e
  cases r
  exact assignInOrder_nil ⟨σ, H, I, h⟩
theorem pgs_cons {e : Expr} {es : List Expr} {t : TG} {u : TGs} (h1 : PG X e t) (h2 : PGs X es u)
    (hs : (assignEach (e :: es) X.env).map (·.2) = assign e X.env :: (assignEach es X.env).map (·.2) := by rfl) : PGs X (e :: es) (gCons t u) := by
  intro pins s σ H vs us Q I r h
  obtain ⟨v, vr, e1, h⟩ := h
  subst e1
  cases r with
  | cons r rr =>
    rw [hs]
    refine assignInOrder_cons (thn (h1 pins s σ H _ _ _ I r h) fun _ s1 ⟨σ1, H1, I1, q1⟩ => ?_)
    exact h2 pins s1 σ1 H1 _ _ Q I1 rr q1
def gTup (K : PySem.W.Frag) (n : Nat) (t : TGs) : TG := fun v σ H Q => ∃ a xs, v = .ref a ∧ SqT K H a xs ∧ xs.length = n ∧ t xs σ H Q
theorem pg_tup {es : List Expr} {k : Nat} {t : TGs} {n : Nat} (hc : X.calm = true) (h : PGs X es t)
    (hn : (assignEach es X.env).length = n := by rfl) (hst : (assignEach es X.env).findIdx? (·.1) = none := by rfl) : PG X (.Tuple es k pos) (gTup X.K n t) := by
  intro pins s σ H v u Q I r hw
  obtain ⟨a, xs, e1, hq, hl, hw⟩ := hw
  subst e1
  cases r
  obtain ⟨its, rv, ht, hz⟩ := I.tuple hq
  refine assign_Tuple_tuple (I.ok.hd hc) ht (by simp [hn, ← hl, rv.length]) hst fun h' hx => ?_
  have I1 : Inv X pins σ H { s with heap := h' } := I.kept (t' := s.toks) fun b o e => hx b o (Nat.ne_of_lt (Heap.lt_size e)) e
  exact h pins _ σ H xs _ Q I1 (by simpa using rv) hw
def tAsg (te : TE) (g : TG) : TS := fun D σ H => te σ H fun x H1 => g x σ H1 D.nx
theorem ps_asg {tg e : Expr} {te : TE} {g : TG} (he : PE X e te) (hg : PG X tg g) (hs : swapsWithSole [tg] e pos.line X.env = pure false := by rfl) (hw : swappedStores [tg] e X.env = pure none := by rfl)
    (h1 : (assignEach [tg] X.env).map (·.2) = [assign tg X.env] := by rfl) : PS X (.Assign [tg] e pos) (tAsg te g) := by
  intro pins s σ H D I h
  refine wpAny_Assign_stores (thn (he pins s σ H _ I h) fun v s1 ⟨x, H1, I1, r1, q1⟩ => ?_) hs hw
  rw [h1]
  exact thn (hg pins s1 σ H1 x v _ I1 r1 q1) fun _ s2 q => q
theorem ps_set {i : Nat} {x : Str} {e : Expr} {te : TE} {pos' : Pos} (hN : X.N.Nodup) (hi : X.N[i]? = some x) (hx : Loc X.env.scope x) (he : PE X e te) (hs : swapsWith e (some (.Name x pos')) pos.line X.env = pure false := by rfl) (hf : X.fn x = true ∨ X.env.scope.names.lookup x = some .local := by first | exact .inl rfl | exact .inr rfl | assumption) :
    PS X (.Assign [.Name x pos'] e pos) (tAsg te (gName i)) := by
  intro pins s σ H D I h
  refine wpAny_Assign_Name (thn (he pins s σ H _ I h) fun v s1 ⟨y, H1, I1, r1, q1⟩ => ?_) hs
  exact store_ok I1 hN hi hx r1 (fun s2 I2 => ⟨_, H1, I2, q1⟩) hf
def tAug (i : Nat) (te : TE) (ti : TIp) : TS := fun D σ H => ∃ x, σ[i]? = some (some x) ∧ te σ H fun y H1 => ti x y H1 fun z H2 => D.nx (σ.set i (some z)) H2
theorem ps_aug {i : Nat} {x : Str} {e : Expr} {te : TE} {op : Operator} {ti : TIp} {pos' : Pos} (hN : X.N.Nodup) (hi : X.N[i]? = some x) (hx : Loc X.env.scope x) (he : PE X e te) (ho : PIp X op ti) (hf : X.fn x = true ∨ X.env.scope.names.lookup x = some .local := by first | exact .inl rfl | exact .inr rfl | assumption) :
    PS X (.AugAssign (.Name x pos') op e pos) (tAug i te ti) := by
  intro pins s σ H D I h
  obtain ⟨v, e1, h⟩ := h
  obtain ⟨m, hn, hl⟩ := I.loc
  have vis : Vis X.env.scope x := by rcases hx with k | k; exact .inl k; exact .inr (.inl k)
  obtain ⟨u, r, l⟩ := hl i x v hi e1 vis
  refine wpAny_AugAssign_Name ?_
  have go : wpAny (model X.prog X.w) X.A (eval e X.env) (fun w s₂ => wpAny (model X.prog X.w) X.A (inplaceOp op u w) (fun r s₃ => wpAny (model X.prog X.w) X.A (storeName X.env x r) (fun _ => SP X pins D .next) X.xe s₃) X.xe s₂) X.xe s := by
    refine thn (he pins s σ H _ I h) fun w s1 ⟨y, H1, I1, r1, q1⟩ => ?_
    refine thn (ho pins s1 σ H1 v y u w _ I1 r r1 q1) fun z s2 ⟨zv, H2, I2, r2, q2⟩ => ?_
    exact store_ok I2 hN hi hx r2 (fun s3 I3 => ⟨_, H2, I3, q2⟩) hf
  rcases l with ⟨hk, hm⟩ | ⟨hk, c, hc, hcell⟩
  · exact wpAny_loadName_local I.ok.kind hk hn hm go
  · rcases hk with hk | hk
    · exact wpAny_loadName_cell I.ok.kind hk hc hcell go
    · rcases hx with k | k
      · have : X.env.scope.names.lookup x = some .free := hk
        rw [k] at this; cases this
      · have : X.env.scope.names.lookup x = some .free := hk
        rw [k] at this; cases this
def ipI (f : Int → Int → Int) : TIp := fun x y H Q => ∃ i j, x = .int i ∧ y = .int j ∧ Q (.int (f i j)) H
theorem ip_add : PIp X .Add (ipI fun i j => i + j) := by
  intro pins s σ H x y v u Q I r1 r2 h
  obtain ⟨i, j, e1, e2, q⟩ := h
  subst e1; subst e2
  obtain ⟨t, rfl⟩ := r1
  obtain ⟨t', rfl⟩ := r2
  exact iadd_int ⟨.int _, H, I.tok _, ⟨_, rfl⟩, q⟩
end
section
variable {X : Cx} {pos : Pos}
def tWhile (c : TT) (tb : TS) : TS := fun D σ H => ∃ W : Nat → St → Hp → Prop, (∃ m, W m σ H) ∧ ∀ m σ H, W m σ H →
  c σ H fun b H1 => if b = true then ∃ N : St → Hp → Prop, (∀ σ' H', N σ' H' → ∃ m', m' < m ∧ W m' σ' H') ∧ tb { D with nx := N, ct := N, bk := D.nx } σ H1 else D.nx σ H1
theorem ps_while {c : Expr} {body : List Stmt} {tc : TT} {tb : TS} (hp : PassesOwn (model X.prog X.w) X.A X.env X.xe) (hc : PT X c tc) (hb : PSs X body tb) : PS X (.While c body [] pos) (tWhile tc tb) := by
  intro pins s σ H D I h
  obtain ⟨W, ⟨m0, w0⟩, turn⟩ := h
  refine wpAny_While (codeAny_whileLoop (fun n s' => ∃ σ' H', Inv X pins σ' H' s' ∧ W n σ' H') ?_ m0 ⟨σ, H, I, w0⟩)
  rintro n s1 ⟨σ1, H1, I1, w1⟩
  refine wpAny_passesOwn hp (thn (hc pins s1 σ1 H1 _ I1 (turn n σ1 H1 w1)) fun b s2 ⟨H2, I2, q2⟩ => ?_)
  cases b with
  | true =>
    obtain ⟨N, hN, q2⟩ := q2
    rw [if_pos rfl]
    refine wpAny_passesOwn hp (thn (hb pins s2 σ1 H2 _ I2 q2) fun f s3 q3 => ?_)
    cases f with
    | next =>
      obtain ⟨σ3, H3, I3, n3⟩ := q3
      obtain ⟨m', hm, w3⟩ := hN σ3 H3 n3
      exact ⟨m', hm, σ3, H3, I3, w3⟩
    | cont =>
      obtain ⟨σ3, H3, I3, n3⟩ := q3
      obtain ⟨m', hm, w3⟩ := hN σ3 H3 n3
      exact ⟨m', hm, σ3, H3, I3, w3⟩
    | brk => exact q3
    | ret v => exact q3
  | false =>
    rw [if_neg Bool.false_ne_true]
    exact wpAny_execs_nil ⟨σ1, H2, I2, q2⟩
end
structure It where
  go : Nat → Hp → Prop
  yld : Nat → Hp → V → Hp → Prop
  stop : Nat → Hp → Prop
def FpOk (X : Cx) (pins : List (Addr × Obj)) (H : Hp) (b : Addr) : Prop :=
  H b = none ∧ b ≠ X.env.locals ∧ b ∉ X.fs ∧ (b ∈ X.ex ∨ X.s₀.heap.objs.size ≤ b) ∧ (∀ x c, X.env.cells.lookup x = some c → c ≠ b) ∧ ∀ p ∈ X.pn ++ pins, p.1 ≠ b
theorem Inv.fpOk {X : Cx} {pins : List (Addr × Obj)} {σ : St} {H H' : Hp} {s : Shared} {b : Addr} (I : Inv X pins σ H s) (hb : s.heap.objs.size ≤ b) (hn : H' b = none) : FpOk X pins H' b := by
  refine ⟨hn, Nat.ne_of_gt (Nat.lt_of_lt_of_le I.lt hb), I.nofs hb, .inr (Nat.le_trans I.sz hb), fun x c e z => ?_, fun p hp z => ?_⟩
  · obtain ⟨v, q⟩ := I.cell x c e
    exact absurd (Nat.lt_of_lt_of_le q.lt (by rw [z]; exact hb)) (Nat.lt_irrefl _)
  · exact absurd (Nat.lt_of_lt_of_le (Heap.lt_size (I.pin p hp).1) (by rw [z]; exact hb)) (Nat.lt_irrefl _)
structure Turn (P : Program) (w : World) (K : PySem.W.Frag) (tg : Expr) (J : It) (fp : List Addr) (it : Addr) (tn : Nat → Heap → Prop) : Prop where
  mem : it ∈ fp
  obj : ∀ i h, tn i h → ∀ b ∈ fp, ∃ o, h.get? b = some o ∧ ∀ v, o.data ≠ .cell v
  keep : ∀ i h h', tn i h → (∀ b ∈ fp, ∀ o, h.get? b = some o → h'.get? b = some o) → tn i h'
  item : ∀ (X : Cx), X.prog = P → X.w = w → X.K = K → X.calm = true → ∀ (i : Nat) (pins : List (Addr × Obj)) (s : Shared) (σ : St) (H : Hp) (E : Value → Shared → Prop), Inv X pins σ H s → (∀ b ∈ fp, FpOk X pins H b) → tn i s.heap → J.go i H →
    wpAny (model P w) X.A (pyNext (.ref it)) (fun r s1 => ∃ u, r = some u ∧
      wpAny (model P w) X.A (letOwnedTupleGo tg (.ref it) u) (fun _ s2 => ∃ x H', Inv X pins σ H' s2 ∧ RelV x u ∧ J.yld i H x H' ∧ tn (i + 1) s2.heap ∧ ∀ b ∈ fp, H' b = none) E s1) E s
  done : ∀ (X : Cx), X.prog = P → X.w = w → X.K = K → X.calm = true → ∀ (i : Nat) (pins : List (Addr × Obj)) (s : Shared) (σ : St) (H : Hp) (E : Value → Shared → Prop), Inv X pins σ H s → (∀ b ∈ fp, FpOk X pins H b) → tn i s.heap → J.stop i H →
    wpAny (model P w) X.A (pyNext (.ref it)) (fun r s1 => r = none ∧ Inv X pins σ H s1) E s
  self : ∀ (A : Around) (i : Nat) (s : Shared) (Q : Value → Shared → Prop) (E : Value → Shared → Prop), tn i s.heap → Q (.ref it) s → wpAny (model P w) A (pyIter (.ref it)) Q E s
abbrev TI := St → Hp → (It → Hp → Prop) → Prop
def PIE (X : Cx) (pins : List (Addr × Obj)) (σ : St) (tg : Expr) (R : It → Hp → Prop) (itv : Value) (s2 : Shared) : Prop :=
  ∃ (it : Addr) (fp : List Addr) (tn : Nat → Heap → Prop) (J : It) (H' : Hp), itv = .ref it ∧ Inv X pins σ H' s2 ∧ Turn X.prog X.w X.K tg J fp it tn ∧ tn 0 s2.heap ∧ (∀ b ∈ fp, FpOk X pins H' b) ∧ R J H'
def PI (X : Cx) (tg iter : Expr) (wi : TI) : Prop :=
  ∀ (pins : List (Addr × Obj)) (s : Shared) (σ : St) (H : Hp) (R : It → Hp → Prop), Inv X pins σ H s → wi σ H R →
    wpAny (model X.prog X.w) X.A (eval iter X.env) (fun v s1 => wpAny (model X.prog X.w) X.A (pyIter v) (PIE X pins σ tg R) X.xe s1) X.xe s
theorem go_of {M : Model} {A : Around} {E : Value → Shared → Prop} {s : Shared} {tg : Expr} {it : Addr} {u : Value} {o : Obj} {n : String} {vs : Array Value} {Q : Unit → Shared → Prop} (ho : s.heap.get? it = some o) (hc : o.cls = .type n) (hd : o.data = .fields vs)
    (hn : ["enumerate", "zip", "dict_itemiterator", "dict_reverseitemiterator", "odict_iterator", "itertools.zip_longest", "itertools.pairwise"].contains n = false) (hQ : Q () s) : wpAny M A (letOwnedTupleGo tg (.ref it) u) Q E s := by
  unfold letOwnedTupleGo
  cases tg <;> first
    | exact wpAny_pure hQ
    | (cases u <;> first
        | exact wpAny_pure hQ
        | (refine wpAny_bind (wpAny_load ho ?_)
           rw [hc, hd]
           show wpAny M A (if (["enumerate", "zip", "dict_itemiterator", "dict_reverseitemiterator", "odict_iterator", "itertools.zip_longest", "itertools.pairwise"].contains n && vs[0]? == some (rawInt _)) = true then _ else _) Q E s
           rw [if_neg (by intro h; rw [hn, Bool.false_and] at h; cases h)]
           exact wpAny_pure hQ))
def Itl (K : PySem.W.Frag) (a : Addr) : It :=
  ⟨fun i H => ∃ xs x, SqL K H a xs ∧ xs[i]? = some x, fun i H x H' => H' = H ∧ ∀ xs, SqL K H a xs → xs[i]? = some x, fun i H => ∃ xs, SqL K H a xs ∧ xs.length ≤ i⟩
def Itt (K : PySem.W.Frag) (a : Addr) : It :=
  ⟨fun i H => ∃ xs x, SqT K H a xs ∧ xs[i]? = some x, fun i H x H' => H' = H ∧ ∀ xs, SqT K H a xs → xs[i]? = some x, fun i H => ∃ xs, SqT K H a xs ∧ xs.length ≤ i⟩
def Itr (lo : Int) (n : Nat) : It := ⟨fun i _ => i < n, fun i H x H' => H' = H ∧ x = .int (lo + i), fun i _ => n ≤ i⟩
theorem turn_list {P : Program} {w : World} {K : PySem.W.Frag} {tg : Expr} (a it : Addr) : Turn P w K tg (Itl K a) [it] it (fun i h => h.IsListIter it a i) where
  mem := by simp
  obj := fun i h st b hb => by
    have e : b = it := by simpa using hb
    subst e
    obtain ⟨o, e, c, d⟩ := st
    exact ⟨o, e, fun v z => by rw [d] at z; cases z⟩
  keep := fun i h h' st k => st.at fun o e => k it (by simp) o e
  item := by
    intro X hP hw hK hc i pins s σ H E I hf st hg
    subst hP hw hK
    obtain ⟨xs, x, hq, hx⟩ := hg
    obtain ⟨its, rv, p, hz⟩ := I.list hq
    obtain ⟨u, hu, ru⟩ := rv.get hx
    obtain ⟨f0, f1, f2, f3, f4, f5⟩ := hf it (by simp)
    refine wpAny_pyNext_list_item st p.isList (x := u) (by simpa using hu) fun h' st' sb => ?_
    have I1 : Inv X pins σ H { s with heap := h' } := I.turned (t' := s.toks) (fun b o hb e => (sb.2 b hb).trans e) f0 f1 f3 f4 f5
    obtain ⟨o, e, c, d⟩ := id st'
    exact ⟨u, rfl, go_of (s := { s with heap := h' }) e c d (by decide) ⟨x, H, I1, ru, ⟨rfl, fun ys hy => by rw [I.list_inj hy hq]; exact hx⟩, st', fun b hb => (hf b hb).1⟩⟩
  done := by
    intro X hP hw hK hc i pins s σ H E I hf st hg
    subst hP hw hK
    obtain ⟨xs, hq, hx⟩ := hg
    obtain ⟨its, rv, p, hz⟩ := I.list hq
    obtain ⟨f0, f1, f2, f3, f4, f5⟩ := hf it (by simp)
    have hl := rv.length
    exact wpAny_pyNext_list_end (I.ok.hd hc) st p.isList (by simp; omega) fun h' eb => ⟨rfl, I.turned (t' := s.toks) (fun b o hb e => eb b o hb e) f0 f1 f3 f4 f5⟩
  self := fun _ _ _ _ _ st h => wpAny_pyIter_listiter st h
theorem turn_tuple {P : Program} {w : World} {K : PySem.W.Frag} {tg : Expr} (a it : Addr) : Turn P w K tg (Itt K a) [it] it (fun i h => h.IsTupleIter it a i) where
  mem := by simp
  obj := fun i h st b hb => by
    have e : b = it := by simpa using hb
    subst e
    obtain ⟨o, e, c, d⟩ := st
    exact ⟨o, e, fun v z => by rw [d] at z; cases z⟩
  keep := fun i h h' st k => st.at fun o e => k it (by simp) o e
  item := by
    intro X hP hw hK hc i pins s σ H E I hf st hg
    subst hP hw hK
    obtain ⟨xs, x, hq, hx⟩ := hg
    obtain ⟨its, rv, p, hz⟩ := I.tuple hq
    obtain ⟨u, hu, ru⟩ := rv.get hx
    obtain ⟨f0, f1, f2, f3, f4, f5⟩ := hf it (by simp)
    refine wpAny_pyNext_tuple_item st (show s.heap.IsTuple a its.toArray from p) (x := u) (by simpa using hu) fun h' st' sb => ?_
    have I1 : Inv X pins σ H { s with heap := h' } := I.turned (t' := s.toks) (fun b o hb e => (sb.2 b hb).trans e) f0 f1 f3 f4 f5
    obtain ⟨o, e, c, d⟩ := id st'
    exact ⟨u, rfl, go_of (s := { s with heap := h' }) e c d (by decide) ⟨x, H, I1, ru, ⟨rfl, fun ys hy => by rw [I.tuple_inj hy hq]; exact hx⟩, st', fun b hb => (hf b hb).1⟩⟩
  done := by
    intro X hP hw hK hc i pins s σ H E I hf st hg
    subst hP hw hK
    obtain ⟨xs, hq, hx⟩ := hg
    obtain ⟨its, rv, p, hz⟩ := I.tuple hq
    obtain ⟨f0, f1, f2, f3, f4, f5⟩ := hf it (by simp)
    have hl := rv.length
    exact wpAny_pyNext_tuple_end (I.ok.hd hc) st (show s.heap.IsTuple a its.toArray from p) (by simp; omega) fun h' eb => ⟨rfl, I.turned (t' := s.toks) (fun b o hb e => eb b o hb e) f0 f1 f3 f4 f5⟩
  self := fun _ _ _ _ _ st h => wpAny_pyIter_tupleiter st h
theorem turn_range {P : Program} {w : World} {K : PySem.W.Frag} {tg : Expr} (it : Addr) (lo : Int) (n : Nat) : Turn P w K tg (Itr lo n) [it] it (fun i h => IsRangeIter h it (lo + (i : Nat) * 1) ((n : Int) - (i : Nat)) 1) where
  mem := by simp
  obj := fun i h st b hb => by
    have e : b = it := by simpa using hb
    subst e
    exact ⟨_, st, fun v z => by
      have z' : Data.fields _ = Data.cell v := z
      cases z'⟩
  keep := fun i h h' st k => k it (by simp) _ st
  item := by
    intro X hP hw hK hc i pins s σ H E I hf st hg
    subst hP hw hK
    obtain ⟨f0, f1, f2, f3, f4, f5⟩ := hf it (by simp)
    have W := Walks.range (prog := X.prog) (w := X.w) (I.ok.hd hc) it lo 1 n
    refine W.item i s _ _ hg st fun v h' tk hv st' kk => ?_
    obtain ⟨t, rfl⟩ := hv
    have I1 : Inv X pins σ H { s with heap := h', toks := tk } := I.turned (fun b o hb e => kk b o (by simpa using hb) e) f0 f1 f3 f4 f5
    refine ⟨_, rfl, go_of (s := { s with heap := h', toks := tk }) (n := "range_iterator") st' rfl rfl (by decide) ⟨.int (lo + i), H, I1, ⟨t, ?_⟩, ⟨rfl, rfl⟩, st', fun b hb => (hf b hb).1⟩⟩
    rw [Int.mul_one]
  done := by
    intro X hP hw hK hc i pins s σ H E I hf st hg
    subst hP hw hK
    obtain ⟨f0, f1, f2, f3, f4, f5⟩ := hf it (by simp)
    exact wpAny_pyNext_range_end (I.ok.hd hc) st (by have : n ≤ i := hg; omega) fun h' eb => ⟨rfl, I.turned (t' := s.toks) (fun b o hb e => eb b o hb e) f0 f1 f3 f4 f5⟩
  self := fun _ _ _ _ _ st h => wpAny_pyIter_rangeiter st h
end L2
namespace L2
open PySem PySem.Spec PyProof.Rows
section
variable {X : Cx} {tg : Expr}
def iList (K : PySem.W.Frag) (tl : TE) : TI := fun σ H R => tl σ H fun x H1 => ∃ a, x = .ref a ∧ (∃ xs, SqL K H1 a xs) ∧ R (Itl K a) H1
def iTup (K : PySem.W.Frag) (tl : TE) : TI := fun σ H R => tl σ H fun x H1 => ∃ a, x = .ref a ∧ (∃ xs, SqT K H1 a xs) ∧ R (Itt K a) H1
theorem pi_list {l : Expr} {tl : TE} (hl : PE X l tl) : PI X tg l (iList X.K tl) := by
  intro pins s σ H R I h
  refine thn (hl pins s σ H _ I h) fun v s1 ⟨x, H1, I1, r1, q1⟩ => ?_
  obtain ⟨a, e, ⟨xs, hq⟩, q⟩ := q1
  subst e
  cases r1
  obtain ⟨its, rv, p, hz⟩ := I1.list hq
  refine wpAny_pyIter_list p.isList ?_
  refine ⟨s1.heap.objs.size, [s1.heap.objs.size], _, _, H1, rfl, I1.kept (t' := s1.toks) fun b o e => Heap.get?_push_of_some _ e, turn_list a _, ⟨_, Heap.get?_push_size _ rfl, rfl, rfl⟩, fun b hb => ?_, q⟩
  have e : b = s1.heap.objs.size := by simpa using hb
  subst e
  exact I1.fpOk (Nat.le_refl _) (I1.hok.fresh (Nat.le_refl _))
theorem pi_tup {l : Expr} {tl : TE} (hl : PE X l tl) : PI X tg l (iTup X.K tl) := by
  intro pins s σ H R I h
  refine thn (hl pins s σ H _ I h) fun v s1 ⟨x, H1, I1, r1, q1⟩ => ?_
  obtain ⟨a, e, ⟨xs, hq⟩, q⟩ := q1
  subst e
  cases r1
  obtain ⟨its, rv, p, hz⟩ := I1.tuple hq
  refine wpAny_pyIter_tuple (show s1.heap.IsTuple a its.toArray from p) ?_
  refine ⟨s1.heap.objs.size, [s1.heap.objs.size], _, _, H1, rfl, I1.kept (t' := s1.toks) fun b o e => Heap.get?_push_of_some _ e, turn_tuple a _, ⟨_, Heap.get?_push_size _ rfl, rfl, rfl⟩, fun b hb => ?_, q⟩
  have e : b = s1.heap.objs.size := by simpa using hb
  subst e
  exact I1.fpOk (Nat.le_refl _) (I1.hok.fresh (Nat.le_refl _))
theorem range_it {pins : List (Addr × Obj)} {σ : St} {H : Hp} {s : Shared} {R : It → Hp → Prop} {E : Value → Shared → Prop} {lo hi : Int} {t u v : Tok} {tk : Nat} (I : Inv X pins σ H s) (h1 : -(2 ^ 62) ≤ lo) (h2 : lo < 2 ^ 62) (h3 : -(2 ^ 62) ≤ hi) (h4 : hi < 2 ^ 62)
    (q : R (Itr lo (hi - lo).toNat) H) : wpAny (model X.prog X.w) X.A (pyIter (.ref s.heap.objs.size)) (PIE X pins σ tg R) E { s with heap := s.heap.push { cls := .type "range", data := .fields #[.int lo t, .int hi u, .int 1 v] }, toks := tk } := by
  refine wpAny_pyIter_range (IsRange.new ..) (small_one h1 h2 h3 h4) ?_
  have I1 : Inv X pins σ H { s with heap := s.heap.push { cls := .type "range", data := .fields #[.int lo t, .int hi u, .int 1 v] }, toks := tk } := I.kept fun b o e => Heap.get?_push_of_some _ e
  refine ⟨(s.heap.push { cls := .type "range", data := .fields #[.int lo t, .int hi u, .int 1 v] }).objs.size, [(s.heap.push { cls := .type "range", data := .fields #[.int lo t, .int hi u, .int 1 v] }).objs.size], _, _, H, rfl,
    I1.kept (t' := tk) fun b o e => Heap.get?_push_of_some _ e, turn_range _ lo (hi - lo).toNat, ?_, fun b hb => ?_, q⟩
  · have e1 : lo + ((0 : Nat) : Int) * 1 = lo := by simp
    have e2 : (((hi - lo).toNat : Nat) : Int) - ((0 : Nat) : Int) = Builtin.Range.rangeSize lo hi 1 := by rw [rangeSize_one]; split <;> omega
    show IsRangeIter _ _ (lo + ((0 : Nat) : Int) * 1) ((((hi - lo).toNat : Nat) : Int) - ((0 : Nat) : Int)) 1
    rw [e1, e2]
    exact Heap.get?_push_size _ rfl
  · have e : b = (s.heap.push { cls := .type "range", data := .fields #[.int lo t, .int hi u, .int 1 v] }).objs.size := by simpa using hb
    subst e
    exact I1.fpOk (Nat.le_refl _) (I1.hok.fresh (Nat.le_refl _))
def iRng1 (ta : TA) : TI := fun σ H R => ta σ H fun vs H1 => ∃ j : Int, vs = [.int j] ∧ -(2 ^ 62) ≤ j ∧ j < 2 ^ 62 ∧ R (Itr 0 j.toNat) H1
def iRng2 (ta : TA) : TI := fun σ H R => ta σ H fun vs H1 => ∃ i j : Int, vs = [.int i, .int j] ∧ (-(2 ^ 62) ≤ i ∧ i < 2 ^ 62 ∧ -(2 ^ 62) ≤ j ∧ j < 2 ^ 62) ∧ R (Itr i (j - i).toNat) H1
theorem pi_range1 {a : Expr} {ta : TA} {p pos : Pos} (hg : Gl X "range") (hm : X.mg "range" = none) (ha : PA X [a] ta) (hs : starEach [a] X.env = [(false, eval a X.env)] := by rfl) : PI X tg (.Call (.Name "range" p) [a] [] pos) (iRng1 ta) := by
  intro pins s σ H R I h
  refine Call_ (ld_blt I hg hm boot_range (PyProof.Rows.callWith_type1 (thn (ha pos pins s σ H _ I h) fun us s1 ⟨vs, H1, I1, r1, q1⟩ => ?_) hs rfl))
  obtain ⟨j, e, q1, q2, q⟩ := q1
  subst e
  cases r1 with
  | cons r rr =>
    cases rr
    obtain ⟨t, rfl⟩ := r
    exact call_range_1 (range_it I1 (by omega) (by omega) q1 q2 (by simpa using q))
theorem pi_range2 {a b : Expr} {ta : TA} {p pos : Pos} (hg : Gl X "range") (hm : X.mg "range" = none) (ha : PA X [a, b] ta) (hs : starEach [a, b] X.env = [(false, eval a X.env), (false, eval b X.env)] := by rfl) (hs2 : starEach [b] X.env = [(false, eval b X.env)] := by rfl) :
    PI X tg (.Call (.Name "range" p) [a, b] [] pos) (iRng2 ta) := by
  intro pins s σ H R I h
  refine Call_ (ld_blt I hg hm boot_range (PyProof.Rows.callWith_type1 (thn (ha pos pins s σ H _ I h) fun us s1 ⟨vs, H1, I1, r1, q1⟩ => ?_) (by rw [hs, hs2]) (by rw [hs2]; rfl)))
  obtain ⟨i, j, e, ⟨q1, q2, q3, q4⟩, q⟩ := q1
  subst e
  cases r1 with
  | cons r rr =>
    cases rr with
    | cons r' rr =>
      cases rr
      obtain ⟨t, rfl⟩ := r
      obtain ⟨t', rfl⟩ := r'
      exact call_range_2 (range_it I1 q1 q2 q3 q4 q)
def tFor (wi : TI) (g : TG) (tb : TS) : TS := fun D σ H => wi σ H fun J H1 => ∃ W : Nat → Nat → St → Hp → Prop, (∃ m, W 0 m σ H1) ∧ ∀ i m σ H, W i m σ H →
  (J.stop i H ∧ D.nx σ H) ∨ (J.go i H ∧ ∃ N : St → Hp → Prop, (∀ σ' H', N σ' H' → ∃ m', m' < m ∧ W (i + 1) m' σ' H') ∧ ∀ x H', J.yld i H x H' → g x σ H' fun σ2 H2 => tb { D with nx := N, ct := N, bk := D.nx } σ2 H2)
def pinsAt (fp : List Addr) (h : Heap) : List (Addr × Obj) := fp.filterMap fun b => (h.get? b).map fun o => (b, o)
theorem mem_pinsAt {fp : List Addr} {h : Heap} {b : Addr} {o : Obj} (hb : b ∈ fp) (e : h.get? b = some o) : (b, o) ∈ pinsAt fp h := List.mem_filterMap.mpr ⟨b, hb, by rw [e]; rfl⟩
theorem of_pinsAt {fp : List Addr} {h : Heap} {p : Addr × Obj} (hp : p ∈ pinsAt fp h) : p.1 ∈ fp ∧ h.get? p.1 = some p.2 := by
  obtain ⟨b, hb, e⟩ := List.mem_filterMap.mp hp
  cases q : h.get? b with
  | none => rw [q] at e; cases e
  | some o =>
    rw [q] at e
    have e' : (b, o) = p := Option.some.inj e
    subst e'
    exact ⟨hb, q⟩
theorem Inv.pinned {pins : List (Addr × Obj)} {σ : St} {H : Hp} {s : Shared} {fp : List Addr} (I : Inv X pins σ H s) (hf : ∀ b ∈ fp, FpOk X pins H b) (ho : ∀ b ∈ fp, ∃ o, s.heap.get? b = some o ∧ ∀ v, o.data ≠ .cell v) : Inv X (pins ++ pinsAt fp s.heap) σ H s :=
  I.pins_of fun p hp => (List.mem_append.mp hp).elim (fun z => I.pin p (List.mem_append_right _ z)) fun z => by
    obtain ⟨hb, e⟩ := of_pinsAt z
    obtain ⟨f0, f1, f2, _⟩ := hf p.1 hb
    obtain ⟨o, e', d⟩ := ho p.1 hb
    rw [e] at e'; cases e'
    exact ⟨e, f0, f1, f2, d⟩
theorem Inv.unpinned {pins pl : List (Addr × Obj)} {σ : St} {H : Hp} {s : Shared} (I : Inv X (pins ++ pl) σ H s) : Inv X pins σ H s := I.pins_of fun p hp => I.pin p (List.mem_append_right _ (List.mem_append_left _ hp))
theorem ps_for {iter : Expr} {body : List Stmt} {wi : TI} {g : TG} {tb : TS} {pos : Pos} (hp : PassesOwn (model X.prog X.w) X.A X.env X.xe) (hc : X.calm = true) (hi : PI X tg iter wi) (hg : PG X tg g) (hb : PSs X body tb)
    (hs : ∀ x, foldedSetIterable iter X.env x = pure x := by intro _; rfl) : PS X (.For tg iter body [] pos) (tFor wi g tb) := by
  intro pins s σ H D I h
  refine wpAny_For (thn (hi pins s σ H _ I h) fun v s1 h1 => thn h1 fun itv s2 h2 => ?_) hs
  obtain ⟨it, fp, tn, J, H2, e, I2, T, st2, f2, W, ⟨m0, w0⟩, turn⟩ := h2
  subst e
  have stat : ∀ {H' : Hp}, (∀ b ∈ fp, H' b = none) → ∀ b ∈ fp, FpOk X pins H' b := fun hn b hb => ⟨hn b hb, (f2 b hb).2⟩
  refine codeAny_forLoop_any (fun n s' => ∃ i σ' H', Inv X pins σ' H' s' ∧ tn i s'.heap ∧ (∀ b ∈ fp, H' b = none) ∧ W i n σ' H') ?_ m0 ⟨0, σ, H2, I2, st2, fun b hb => (f2 b hb).1, w0⟩
  rintro n s3 ⟨i, σ3, H3, I3, st3, fr3, w3⟩
  rcases turn i n σ3 H3 w3 with ⟨stop, qn⟩ | ⟨go, N, hN, step⟩
  · refine wpAny_passesOwn hp (thn (T.done X rfl rfl rfl hc i pins s3 σ3 H3 X.xe I3 (stat fr3) st3 stop) fun r s4 ⟨hr, I4⟩ => ?_)
    subst hr
    exact wpAny_execs_nil ⟨σ3, H3, I4, qn⟩
  · refine wpAny_passesOwn hp (thn (T.item X rfl rfl rfl hc i pins s3 σ3 H3 X.xe I3 (stat fr3) st3 go) fun r s4 ⟨u, hr, h4⟩ => ?_)
    subst hr
    refine wpAny_passesOwn hp (thn h4 fun _ s5 ⟨x, H5, I5, r5, y5, st5, fr5⟩ => ?_)
    have I5' := I5.pinned (stat fr5) (T.obj _ _ st5)
    refine wpAny_passesOwn hp (thn (hg _ s5 σ3 H5 x u _ I5' r5 (step x H5 y5)) fun _ s6 ⟨σ6, H6, I6, q6⟩ => ?_)
    refine wpAny_passesOwn hp (thn (hb _ s6 σ6 H6 _ I6 q6) fun f s7 q7 => ?_)
    have again : ∀ {σ7 : St} {H7 : Hp}, Inv X (pins ++ pinsAt fp s5.heap) σ7 H7 s7 → N σ7 H7 → ∃ m, m < n ∧ ∃ i σ' H', Inv X pins σ' H' s7 ∧ tn i s7.heap ∧ (∀ b ∈ fp, H' b = none) ∧ W i m σ' H' := fun {σ7 H7} I7 n7 => by
      obtain ⟨m', hm, w7⟩ := hN σ7 H7 n7
      refine ⟨m', hm, i + 1, σ7, H7, I7.unpinned, T.keep _ _ _ st5 fun b hb o e => (I7.pin (b, o) (List.mem_append_right _ (List.mem_append_right _ (mem_pinsAt hb e)))).1, fun b hb => ?_, w7⟩
      obtain ⟨o, e, d⟩ := T.obj _ _ st5 b hb
      exact (I7.pin (b, o) (List.mem_append_right _ (List.mem_append_right _ (mem_pinsAt hb e)))).2.1
    cases f with
    | next => obtain ⟨σ7, H7, I7, n7⟩ := q7; exact again I7 n7
    | cont => obtain ⟨σ7, H7, I7, n7⟩ := q7; exact again I7 n7
    | brk => obtain ⟨σ7, H7, I7, q7⟩ := q7; exact ⟨σ7, H7, I7.unpinned, q7⟩
    | ret v => obtain ⟨x7, σ7, H7, I7, r7, q7⟩ := q7; exact ⟨x7, σ7, H7, I7.unpinned, r7, q7⟩
end
theorem for_list {K : PySem.W.Frag} {a : Addr} {xs : List V} {g : TG} {tb : TS} {D : Ends} {σ : St} {H : Hp} (Pv : Nat → St → Hp → Prop) (h0 : Pv 0 σ H) (hl : ∀ i σ H, i ≤ xs.length → Pv i σ H → SqL K H a xs)
    (hs : ∀ i x σ H, xs[i]? = some x → Pv i σ H → g x σ H fun σ2 H2 => tb { D with nx := Pv (i + 1), ct := Pv (i + 1), bk := D.nx } σ2 H2) (hd : ∀ σ H, Pv xs.length σ H → D.nx σ H) :
    ∃ W : Nat → Nat → St → Hp → Prop, (∃ m, W 0 m σ H) ∧ ∀ i m σ H, W i m σ H →
      ((Itl K a).stop i H ∧ D.nx σ H) ∨ ((Itl K a).go i H ∧ ∃ N : St → Hp → Prop, (∀ σ' H', N σ' H' → ∃ m', m' < m ∧ W (i + 1) m' σ' H') ∧ ∀ x H', (Itl K a).yld i H x H' → g x σ H' fun σ2 H2 => tb { D with nx := N, ct := N, bk := D.nx } σ2 H2) := by
  refine ⟨fun i m σ H => m = xs.length - i ∧ i ≤ xs.length ∧ Pv i σ H, ⟨xs.length, by simp, Nat.zero_le _, h0⟩, ?_⟩
  rintro i m σ H ⟨rfl, hi, p⟩
  have q := hl i σ H hi p
  by_cases hlt : i < xs.length
  · refine .inr ⟨⟨xs, xs[i], q, by simp [hlt]⟩, Pv (i + 1), fun σ' H' p' => ⟨xs.length - (i + 1), by omega, rfl, hlt, p'⟩, fun x H' y => ?_⟩
    obtain ⟨e, y⟩ := y
    subst e
    exact hs i x σ _ (y xs q) p
  · have e : i = xs.length := by omega
    subst e
    exact .inl ⟨⟨xs, q, Nat.le_refl _⟩, hd σ H p⟩
theorem for_tup {K : PySem.W.Frag} {a : Addr} {xs : List V} {g : TG} {tb : TS} {D : Ends} {σ : St} {H : Hp} (Pv : Nat → St → Hp → Prop) (h0 : Pv 0 σ H) (hl : ∀ i σ H, i ≤ xs.length → Pv i σ H → SqT K H a xs)
    (hs : ∀ i x σ H, xs[i]? = some x → Pv i σ H → g x σ H fun σ2 H2 => tb { D with nx := Pv (i + 1), ct := Pv (i + 1), bk := D.nx } σ2 H2) (hd : ∀ σ H, Pv xs.length σ H → D.nx σ H) :
    ∃ W : Nat → Nat → St → Hp → Prop, (∃ m, W 0 m σ H) ∧ ∀ i m σ H, W i m σ H →
      ((Itt K a).stop i H ∧ D.nx σ H) ∨ ((Itt K a).go i H ∧ ∃ N : St → Hp → Prop, (∀ σ' H', N σ' H' → ∃ m', m' < m ∧ W (i + 1) m' σ' H') ∧ ∀ x H', (Itt K a).yld i H x H' → g x σ H' fun σ2 H2 => tb { D with nx := N, ct := N, bk := D.nx } σ2 H2) := by
  refine ⟨fun i m σ H => m = xs.length - i ∧ i ≤ xs.length ∧ Pv i σ H, ⟨xs.length, by simp, Nat.zero_le _, h0⟩, ?_⟩
  rintro i m σ H ⟨rfl, hi, p⟩
  have q := hl i σ H hi p
  by_cases hlt : i < xs.length
  · refine .inr ⟨⟨xs, xs[i], q, by simp [hlt]⟩, Pv (i + 1), fun σ' H' p' => ⟨xs.length - (i + 1), by omega, rfl, hlt, p'⟩, fun x H' y => ?_⟩
    obtain ⟨e, y⟩ := y
    subst e
    exact hs i x σ _ (y xs q) p
  · have e : i = xs.length := by omega
    subst e
    exact .inl ⟨⟨xs, q, Nat.le_refl _⟩, hd σ H p⟩
theorem for_range {lo : Int} {n : Nat} {g : TG} {tb : TS} {D : Ends} {σ : St} {H : Hp} (Pv : Nat → St → Hp → Prop) (h0 : Pv 0 σ H)
    (hs : ∀ i σ H, i < n → Pv i σ H → g (.int (lo + i)) σ H fun σ2 H2 => tb { D with nx := Pv (i + 1), ct := Pv (i + 1), bk := D.nx } σ2 H2) (hd : ∀ σ H, Pv n σ H → D.nx σ H) :
    ∃ W : Nat → Nat → St → Hp → Prop, (∃ m, W 0 m σ H) ∧ ∀ i m σ H, W i m σ H →
      ((Itr lo n).stop i H ∧ D.nx σ H) ∨ ((Itr lo n).go i H ∧ ∃ N : St → Hp → Prop, (∀ σ' H', N σ' H' → ∃ m', m' < m ∧ W (i + 1) m' σ' H') ∧ ∀ x H', (Itr lo n).yld i H x H' → g x σ H' fun σ2 H2 => tb { D with nx := N, ct := N, bk := D.nx } σ2 H2) := by
  refine ⟨fun i m σ H => m = n - i ∧ i ≤ n ∧ Pv i σ H, ⟨n, by simp, Nat.zero_le _, h0⟩, ?_⟩
  rintro i m σ H ⟨rfl, hi, p⟩
  by_cases hlt : i < n
  · refine .inr ⟨hlt, Pv (i + 1), fun σ' H' p' => ⟨n - (i + 1), by omega, rfl, hlt, p'⟩, fun x H' y => ?_⟩
    obtain ⟨e, y⟩ := y
    subst e y
    exact hs i σ _ hlt p
  · have e : i = n := by omega
    subst e
    exact .inl ⟨Nat.le_refl _, hd σ H p⟩
theorem while_by {c : TT} {tb : TS} {D : Ends} {σ : St} {H : Hp} (Pv : St → Hp → Prop) (μ : St → Hp → Nat) (h0 : Pv σ H)
    (hs : ∀ σ H, Pv σ H → c σ H fun b H1 => if b = true then tb { D with nx := fun σ' H' => Pv σ' H' ∧ μ σ' H' < μ σ H, ct := fun σ' H' => Pv σ' H' ∧ μ σ' H' < μ σ H, bk := D.nx } σ H1 else D.nx σ H1)
    (mono : ∀ σ H Q Q', (∀ b H1, Q b H1 → Q' b H1) → c σ H Q → c σ H Q') : tWhile c tb D σ H := by
  refine ⟨fun m σ H => m = μ σ H ∧ Pv σ H, ⟨_, rfl, h0⟩, ?_⟩
  rintro m σ H ⟨rfl, p⟩
  refine mono σ H _ _ (fun b H1 q => ?_) (hs σ H p)
  cases b with
  | true => exact ⟨_, fun σ' H' ⟨p', l⟩ => ⟨_, l, rfl, p'⟩, q⟩
  | false => exact q
end L2
namespace L2
open PySem PySem.Spec PyProof.Rows
abbrev R2 := V → V → Hp → VK → Prop
def OpR (X : Cx) (f : Value → Value → Sem Value) (r : R2) : Prop :=
  ∀ (pins : List (Addr × Obj)) (s : Shared) (σ : St) (H : Hp) (x y : V) (v u : Value) (Q : VK), Inv X pins σ H s → RelV x v → RelV y u → r x y H Q →
    wpAny (model X.prog X.w) X.A (f v u) (EP X pins σ Q) X.xe s
def UnR (X : Cx) (f : Value → Sem Value) (r : V → Hp → VK → Prop) : Prop :=
  ∀ (pins : List (Addr × Obj)) (s : Shared) (σ : St) (H : Hp) (x : V) (v : Value) (Q : VK), Inv X pins σ H s → RelV x v → r x H Q →
    wpAny (model X.prog X.w) X.A (f v) (EP X pins σ Q) X.xe s
def CallR (X : Cx) (f : Value) (r : List V → Hp → VK → Prop) : Prop :=
  ∀ (pins : List (Addr × Obj)) (s : Shared) (σ : St) (H : Hp) (xs : List V) (us : List Value) (Q : VK), Inv X pins σ H s → Vals xs us → r xs H Q →
    wpAny (model X.prog X.w) X.A (call f us) (EP X pins σ Q) X.xe s
def TruR (X : Cx) (r : V → Hp → (Bool → Hp → Prop) → Prop) : Prop :=
  ∀ (pins : List (Addr × Obj)) (s : Shared) (σ : St) (H : Hp) (x : V) (v : Value) (Q : Bool → Hp → Prop), Inv X pins σ H s → RelV x v → r x H Q →
    wpAny (model X.prog X.w) X.A (truthy v) (TP X pins σ Q) X.xe s
def tOp (r : R2) (ta tb : TE) : TE := fun σ H Q => ta σ H fun x H1 => tb σ H1 fun y H2 => r x y H2 Q
def tUn (r : V → Hp → VK → Prop) (ta : TE) : TE := fun σ H Q => ta σ H fun x H1 => r x H1 Q
def rI (C : Int → Int → Prop) (g : Int → Int → V) : R2 := fun x y H Q => ∃ i j, x = .int i ∧ y = .int j ∧ C i j ∧ Q (g i j) H
def rI0 (g : Int → Int → V) : R2 := fun x y H Q => ∃ i j, x = .int i ∧ y = .int j ∧ Q (g i j) H
def rU (g : Int → V) : V → Hp → VK → Prop := fun x H Q => ∃ i, x = .int i ∧ Q (g i) H
section
variable {X : Cx} {a b c : Expr} {ta tb tc : TE} {pos : Pos}
theorem binT (ha : PE X a ta) (hb : PE X b tb) {pins : List (Addr × Obj)} {s : Shared} {σ : St} {H : Hp} {R : V → V → Hp → Prop} (I : Inv X pins σ H s)
    (h : ta σ H fun x H1 => tb σ H1 fun y H2 => R x y H2) {Q : Value → Shared → Prop} {f : Value → Value → Sem Value}
    (hf : ∀ v u s2 x y H2, Inv X pins σ H2 s2 → RelV x v → RelV y u → R x y H2 → wpAny (model X.prog X.w) X.A (f v u) Q X.xe s2) :
    wpAny (model X.prog X.w) X.A (eval a X.env) (fun v s₁ => wpAny (model X.prog X.w) X.A (eval b X.env) (fun u s₂ => wpAny (model X.prog X.w) X.A (f v u) Q X.xe s₂) X.xe s₁) X.xe s := by
  refine thn (ha pins s σ H _ I h) fun v s1 ⟨x, H1, I1, r1, q1⟩ => ?_
  refine thn (hb pins s1 σ H1 _ I1 q1) fun u s2 ⟨y, H2, I2, r2, q2⟩ => ?_
  exact hf v u s2 x y H2 I2 r1 r2 q2
theorem pe_op {op : Operator} {r : R2} (ho : OpR X (binaryOp op) r) (ha : PE X a ta) (hb : PE X b tb) : PE X (.BinOp a op b pos) (tOp r ta tb) := by
  intro pins s σ H Q I h
  exact wpAny_BinOp (binT ha hb I h fun v u s2 x y H2 I2 rx ry q => ho pins s2 σ H2 x y v u Q I2 rx ry q)
theorem pe_un {op : UnaryOp} {r : V → Hp → VK → Prop} (ho : UnR X (unaryOp op) r) (ha : PE X a ta) : PE X (.UnaryOp op a pos) (tUn r ta) := by
  intro pins s σ H Q I h
  exact UnaryOp_ (thn (ha pins s σ H _ I h) fun v s1 ⟨x, H1, I1, r1, q1⟩ => ho pins s1 σ H1 x v Q I1 r1 q1)
theorem opI {f : Value → Value → Sem Value} {C : Int → Int → Prop} {g : Int → Int → Int}
    (rule : ∀ (i j : Int) (t u : Tok) (s : Shared) (Q : Value → Shared → Prop) (E : Value → Shared → Prop), C i j → Q (.int (g i j) s.toks) { s with toks := s.toks + 1 } → wpAny (model X.prog X.w) X.A (f (.int i t) (.int j u)) Q E s) :
    OpR X f (rI C fun i j => .int (g i j)) := by
  intro pins s σ H x y v u Q I rx ry h
  obtain ⟨i, j, rfl, rfl, hc, q⟩ := h
  obtain ⟨t, rfl⟩ := rx
  obtain ⟨t', rfl⟩ := ry
  exact rule i j t t' s _ _ hc ⟨.int (g i j), H, I.tok _, ⟨_, rfl⟩, q⟩
theorem opI0 {f : Value → Value → Sem Value} {g : Int → Int → Int}
    (rule : ∀ (i j : Int) (t u : Tok) (s : Shared) (Q : Value → Shared → Prop) (E : Value → Shared → Prop), Q (.int (g i j) s.toks) { s with toks := s.toks + 1 } → wpAny (model X.prog X.w) X.A (f (.int i t) (.int j u)) Q E s) :
    OpR X f (rI0 fun i j => .int (g i j)) := by
  intro pins s σ H x y v u Q I rx ry h
  obtain ⟨i, j, rfl, rfl, q⟩ := h
  obtain ⟨t, rfl⟩ := rx
  obtain ⟨t', rfl⟩ := ry
  exact rule i j t t' s _ _ ⟨.int (g i j), H, I.tok _, ⟨_, rfl⟩, q⟩
theorem opB0 {f : Value → Value → Sem Value} {g : Int → Int → Bool}
    (rule : ∀ (i j : Int) (t u : Tok) (s : Shared) (Q : Value → Shared → Prop) (E : Value → Shared → Prop), Q (.bool (g i j)) s → wpAny (model X.prog X.w) X.A (f (.int i t) (.int j u)) Q E s) :
    OpR X f (rI0 fun i j => .bl (g i j)) := by
  intro pins s σ H x y v u Q I rx ry h
  obtain ⟨i, j, rfl, rfl, q⟩ := h
  obtain ⟨t, rfl⟩ := rx
  obtain ⟨t', rfl⟩ := ry
  exact rule i j t t' s _ _ ⟨.bl (g i j), H, I, rfl, q⟩
def CDiv (i j : Int) : Prop := 0 < j ∧ j < 1073741824
def CPow (i j : Int) : Prop := 0 ≤ j ∧ j ≤ 1000000 ∧ i.natAbs < 2 ^ 64
def CMul (i j : Int) : Prop := (-(2 ^ 64) < i ∧ i < 2 ^ 64) ∨ (-(2 ^ 64) < j ∧ j < 2 ^ 64)
theorem CMul.ok {i j : Int} (h : CMul i j) : IntMulOk i j := by
  rcases h with ⟨h1, h2⟩ | ⟨h1, h2⟩
  · exact .of_left (intBits_le_64 h1 h2)
  · exact .of_right (intBits_le_64 h1 h2)
theorem two_pow_nn (k : Nat) : (0 : Int) ≤ 2 ^ k := by
  rw [two_pow_cast]
  exact Int.natCast_nonneg _
theorem op_add : OpR X (binaryOp .Add) (rI0 fun i j => .int (i + j)) := opI0 fun _ _ _ _ _ _ _ q => add_int q
theorem op_sub : OpR X (binaryOp .Sub) (rI0 fun i j => .int (i - j)) := opI0 fun _ _ _ _ _ _ _ q => sub_int q
theorem op_mul : OpR X (binaryOp .Mult) (rI CMul fun i j => .int (i * j)) := opI fun _ _ _ _ _ _ _ hc q => mul_int q hc.ok
theorem op_fdiv : OpR X (binaryOp .FloorDiv) (rI CDiv fun i j => .int (i / j)) := opI fun i j _ _ _ _ _ hc q => by
  have h1 : (0 : Int) < j := hc.1
  have h2 : j < 1073741824 := hc.2
  exact floordiv_int (by omega) (by rw [Int.fdiv_eq_ediv_of_nonneg i (by omega)]; exact q) (.inl (PyProof.noPylong_small (by omega)))
theorem op_mod : OpR X (binaryOp .Mod) (rI (fun _ j => 0 < j) fun i j => .int (i % j)) := opI fun i j _ _ _ _ _ hc q => by
  have h1 : (0 : Int) < j := hc
  exact mod_int' (by omega) (by rw [Int.fmod_eq_emod_of_nonneg i (by omega)]; exact q)
theorem op_pow : OpR X (binaryOp .Pow) (rI CPow fun i j => .int (i ^ j.toNat)) := opI fun _ _ _ _ _ _ _ hc q => pow_int_small hc.1 hc.2.1 hc.2.2 q
theorem op_shl : OpR X (binaryOp .LShift) (rI CPow fun i j => .int (i * 2 ^ j.toNat)) := opI fun _ _ _ _ _ _ _ hc q => lshift_int_small hc.1 hc.2.1 hc.2.2 q
theorem op_shr : OpR X (binaryOp .RShift) (rI (fun _ j => 0 ≤ j) fun i j => .int (i / 2 ^ j.toNat)) := opI fun i j _ _ _ _ _ hc q =>
  rshift_int hc (by rw [Int.fdiv_eq_ediv_of_nonneg i (two_pow_nn _)]; exact q)
theorem op_and : OpR X (binaryOp .BitAnd) (rI0 fun i j => .int (Builtin.bitAnd i j)) := opI0 fun _ _ _ _ _ _ _ q => and_int q
theorem op_or : OpR X (binaryOp .BitOr) (rI0 fun i j => .int (Builtin.bitOr i j)) := opI0 fun _ _ _ _ _ _ _ q => or_int q
theorem iop_or : OpR X (inplaceOp .BitOr) (rI0 fun i j => .int (Builtin.bitOr i j)) := opI0 fun _ _ _ _ _ _ _ q => ior_int q
theorem unI {f : Value → Sem Value} {g : Int → Int}
    (rule : ∀ (i : Int) (t : Tok) (s : Shared) (Q : Value → Shared → Prop) (E : Value → Shared → Prop), Q (.int (g i) s.toks) { s with toks := s.toks + 1 } → wpAny (model X.prog X.w) X.A (f (.int i t)) Q E s) :
    UnR X f (rU fun i => .int (g i)) := by
  intro pins s σ H x v Q I rx h
  obtain ⟨i, rfl, q⟩ := h
  obtain ⟨t, rfl⟩ := rx
  exact rule i t s _ _ ⟨.int (g i), H, I.tok _, ⟨_, rfl⟩, q⟩
theorem un_neg : UnR X (unaryOp .USub) (rU fun i => .int (-i)) := unI fun _ _ _ _ _ q => neg_int q
end
def scal : V → V → Bool
  | .non, .non => true | .non, .int _ => true | .int _, .non => true | .non, .bl _ => true | .bl _, .non => true | .non, .str _ => true | .str _, .non => true
  | .int _, .int _ => true | .bl _, .bl _ => true | .str _, .str _ => true | .byt _, .byt _ => true
  | .int _, .str _ => true | .str _, .int _ => true | .bl _, .str _ => true | .str _, .bl _ => true
  | _, _ => false
def rEq : R2 := fun x y H Q => scal x y = true ∧ Q (.bl (decide (x = y))) H
def rNe : R2 := fun x y H Q => scal x y = true ∧ Q (.bl (!decide (x = y))) H
theorem dec_int {i j : Int} : decide (V.int i = V.int j) = (i == j) := by
  rw [Bool.eq_iff_iff]
  simp
theorem dec_bl {i j : Bool} : decide (V.bl i = V.bl j) = (i == j) := by
  rw [Bool.eq_iff_iff]
  simp
theorem dec_str {i j : Str} : decide (V.str i = V.str j) = (i == j) := by
  rw [Bool.eq_iff_iff]
  simp
theorem dec_byt {i j : Array UInt8} : decide (V.byt i = V.byt j) = (i.toList == j.toList) := by
  rw [Bool.eq_iff_iff]
  cases i
  cases j
  simp
section
variable {X : Cx} {a b c : Expr} {ta tb tc : TE} {pos : Pos}
theorem fin_bl {pins : List (Addr × Obj)} {σ : St} {H : Hp} {s : Shared} {Q : VK} {k k' : Bool} (I : Inv X pins σ H s) (q : Q (.bl k) H) (e : k = k') : EP X pins σ Q (.bool k') s := by
  subst e
  exact ⟨.bl k, H, I, rfl, q⟩
theorem op_eq : OpR X (compareOp .Eq) rEq := by
  intro pins s σ H x y v u Q I rx ry h
  obtain ⟨hs, q⟩ := h
  cases x with
  | non =>
    cases rx
    cases y with
    | non => cases ry; exact PySem.EqNone.eq_none_none (fin_bl I q (by simp))
    | bl j => cases ry; exact PySem.EqNone.eq_none_bool (fin_bl I q (by simp))
    | int j => obtain ⟨t', rfl⟩ := ry; exact PySem.EqNone.eq_none_int (fin_bl I q (by simp))
    | str j => obtain ⟨t', rfl⟩ := ry; exact PySem.EqNone.eq_none_str (fin_bl I q (by simp))
    | _ => exact absurd (show false = true from hs) Bool.false_ne_true
  | bl i =>
    cases rx
    cases y with
    | non => cases ry; exact PySem.EqNone.eq_bool_none (fin_bl I q (by simp))
    | bl j => cases ry; exact eq_bool (fin_bl I q dec_bl)
    | str j => obtain ⟨t', rfl⟩ := ry; exact PySem.EqMixed.eq_bool_str (fin_bl I q (by simp))
    | _ => exact absurd (show false = true from hs) Bool.false_ne_true
  | int i =>
    obtain ⟨t, rfl⟩ := rx
    cases y with
    | non => cases ry; exact PySem.EqNone.eq_int_none (fin_bl I q (by simp))
    | int j => obtain ⟨t', rfl⟩ := ry; exact eq_int (fin_bl I q dec_int)
    | str j => obtain ⟨t', rfl⟩ := ry; exact PySem.EqMixed.eq_int_str (fin_bl I q (by simp))
    | _ => exact absurd (show false = true from hs) Bool.false_ne_true
  | str i =>
    obtain ⟨t, rfl⟩ := rx
    cases y with
    | non => cases ry; exact PySem.EqNone.eq_str_none (fin_bl I q (by simp))
    | bl j => cases ry; exact PySem.EqMixed.eq_str_bool (fin_bl I q (by simp))
    | int j => obtain ⟨t', rfl⟩ := ry; exact PySem.EqMixed.eq_str_int (fin_bl I q (by simp))
    | str j => obtain ⟨t', rfl⟩ := ry; exact eq_str (fin_bl I q dec_str)
    | _ => exact absurd (show false = true from hs) Bool.false_ne_true
  | byt i =>
    obtain ⟨t, rfl⟩ := rx
    cases y with
    | byt j => obtain ⟨t', rfl⟩ := ry; exact PySem.W.eq_bytes (fin_bl I q dec_byt)
    | _ => exact absurd (show false = true from hs) Bool.false_ne_true
  | _ => cases y <;> exact absurd (show false = true from hs) Bool.false_ne_true
theorem op_ne : OpR X (compareOp .NotEq) rNe := by
  intro pins s σ H x y v u Q I rx ry h
  obtain ⟨hs, q⟩ := h
  cases x with
  | non =>
    cases rx
    cases y with
    | non => cases ry; exact PySem.EqNone.ne_none_none (fin_bl I q (by simp))
    | bl j => cases ry; exact PySem.EqNone.ne_none_bool (fin_bl I q (by simp))
    | int j => obtain ⟨t', rfl⟩ := ry; exact PySem.EqNone.ne_none_int (fin_bl I q (by simp))
    | str j => obtain ⟨t', rfl⟩ := ry; exact PySem.EqNone.ne_none_str (fin_bl I q (by simp))
    | _ => exact absurd (show false = true from hs) Bool.false_ne_true
  | bl i =>
    cases rx
    cases y with
    | non => cases ry; exact PySem.EqNone.ne_bool_none (fin_bl I q (by simp))
    | bl j => cases ry; exact ne_bool (fin_bl I q (congrArg not dec_bl))
    | str j => obtain ⟨t', rfl⟩ := ry; exact PySem.EqMixed.ne_bool_str (fin_bl I q (by simp))
    | _ => exact absurd (show false = true from hs) Bool.false_ne_true
  | int i =>
    obtain ⟨t, rfl⟩ := rx
    cases y with
    | non => cases ry; exact PySem.EqNone.ne_int_none (fin_bl I q (by simp))
    | int j => obtain ⟨t', rfl⟩ := ry; exact ne_int (fin_bl I q (congrArg not dec_int))
    | str j => obtain ⟨t', rfl⟩ := ry; exact PySem.EqMixed.ne_int_str (fin_bl I q (by simp))
    | _ => exact absurd (show false = true from hs) Bool.false_ne_true
  | str i =>
    obtain ⟨t, rfl⟩ := rx
    cases y with
    | non => cases ry; exact PySem.EqNone.ne_str_none (fin_bl I q (by simp))
    | bl j => cases ry; exact PySem.EqMixed.ne_str_bool (fin_bl I q (by simp))
    | int j => obtain ⟨t', rfl⟩ := ry; exact PySem.EqMixed.ne_str_int (fin_bl I q (by simp))
    | str j => obtain ⟨t', rfl⟩ := ry; exact ne_str (fin_bl I q (congrArg not dec_str))
    | _ => exact absurd (show false = true from hs) Bool.false_ne_true
  | byt i =>
    obtain ⟨t, rfl⟩ := rx
    cases y with
    | byt j => obtain ⟨t', rfl⟩ := ry; exact PySem.W.ne_bytes (fin_bl I q (congrArg not dec_byt))
    | _ => exact absurd (show false = true from hs) Bool.false_ne_true
  | _ => cases y <;> exact absurd (show false = true from hs) Bool.false_ne_true
theorem op_lt : OpR X (compareOp .Lt) (rI0 fun i j => .bl (decide (i < j))) := opB0 fun _ _ _ _ _ _ _ q => lt_int q
theorem op_le : OpR X (compareOp .LtE) (rI0 fun i j => .bl (decide (i ≤ j))) := opB0 fun _ _ _ _ _ _ _ q => le_int q
theorem op_gt : OpR X (compareOp .Gt) (rI0 fun i j => .bl (decide (j < i))) := opB0 fun _ _ _ _ _ _ _ q => gt_int q
theorem nomark (b : Expr) {op : CmpOp} (h : op ≠ .In := by decide) (h2 : op ≠ .NotIn := by decide) : behindInMarks op b = false := by
  have e1 : (op == CmpOp.In) = false := by cases op <;> first | rfl | exact absurd rfl h
  have e2 : (op == CmpOp.NotIn) = false := by cases op <;> first | rfl | exact absurd rfl h2
  cases b <;> simp [behindInMarks, e1, e2]
theorem pe_cmpR {op : CmpOp} {r : R2} (ho : OpR X (compareOp op) r) (ha : PE X a ta) (hb : PE X b tb) (hm : behindInMarks op b = false) : PE X (.Compare a [op] [b] pos) (tOp r ta tb) := by
  intro pins s σ H Q I h
  exact wpAny_Compare1 (binT ha hb I h fun v u s2 x y H2 I2 rx ry q => ho pins s2 σ H2 x y v u Q I2 rx ry q) hm
def tTest (t : TE) : TT := fun σ H Q => t σ H fun x H' => ∃ k, x = .bl k ∧ Q k H'
theorem pt_cmpR {op : CmpOp} {r : R2} (ho : OpR X (compareOp op) r) (ha : PE X a ta) (hb : PE X b tb) (hm : behindInMarks op b = false) : PT X (.Compare a [op] [b] pos) (tTest (tOp r ta tb)) := by
  intro pins s σ H Q I h
  refine wpAny_isTrue_Compare1 (thn (ha pins s σ H _ I h) fun v s1 ⟨x, H1, I1, r1, q1⟩ => thn (hb pins s1 σ H1 _ I1 q1) fun u s2 ⟨y, H2, I2, r2, q2⟩ =>
    thn (ho pins s2 σ H2 x y v u _ I2 r1 r2 q2) fun c s3 ⟨z, H3, I3, r3, k, e, q3⟩ => ?_) hm
  subst e
  cases r3
  exact wpAny_truthy_bool ⟨H3, I3, q3⟩
def TruV (K : PySem.W.Frag) (x : V) (H : Hp) (k : Bool) : Prop :=
  match x with
  | .non => k = false
  | .bl b => k = b
  | .int i => k = (i != 0)
  | .str y => y.length ≤ sizeLine ∧ k = ((y.length : Int) != 0)
  | .byt y => y.size ≤ sizeLine ∧ k = ((y.size : Int) != 0)
  | .ref p => (∃ xs, SqL K H p xs ∧ k = !xs.isEmpty) ∨ (∃ xs, SqT K H p xs ∧ k = !xs.isEmpty) ∨ ∃ kvs, H p = some (.dK kvs) ∧ k = !kvs.isEmpty
  | _ => False
theorem isEmpty_kv {κ : Type} {kvs : List (κ × V)} {vs : List (κ × Value)} (r : KV kvs vs) : (!vs.isEmpty) = !kvs.isEmpty := by
  cases r <;> rfl
theorem isEmpty_of {xs : List V} {its : List Value} (r : Vals xs its) : (!its.toArray.isEmpty) = !xs.isEmpty := by
  cases r <;> simp
theorem line63 : (sizeLine : Nat) < 2 ^ 63 := by rw [sizeLine_eq]; decide
theorem tru_ok : TruR X (fun x H Q => ∃ k, TruV X.K x H k ∧ Q k H) := by
  intro pins s σ H x v Q I rx h
  obtain ⟨k, e, q⟩ := h
  have hl := line63
  have hs : sizeLine = 16777216 := sizeLine_eq
  cases x with
  | non =>
    cases rx
    have e' : k = false := e
    subst e'
    exact truthy_none ⟨H, I, q⟩
  | bl b =>
    cases rx
    have e' : k = b := e
    subst e'
    exact wpAny_truthy_bool ⟨H, I, q⟩
  | int i =>
    obtain ⟨t, rfl⟩ := rx
    have e' : k = (i != 0) := e
    subst e'
    exact PySem.P.truthy_int ⟨H, I, q⟩
  | str y =>
    obtain ⟨t, rfl⟩ := rx
    obtain ⟨hy, e'⟩ : y.length ≤ sizeLine ∧ k = ((y.length : Int) != 0) := e
    subst e'
    exact PySem.P.truthy_str (by omega) ⟨H, I.tok _, q⟩
  | byt y =>
    obtain ⟨t, rfl⟩ := rx
    obtain ⟨hy, e'⟩ : y.size ≤ sizeLine ∧ k = ((y.size : Int) != 0) := e
    subst e'
    exact PySem.W.truthy_bytes (by omega) ⟨H, I.tok _, q⟩
  | ref p =>
    cases rx
    have e' : (∃ xs, SqL X.K H p xs ∧ k = !xs.isEmpty) ∨ (∃ xs, SqT X.K H p xs ∧ k = !xs.isEmpty) ∨ ∃ kvs, H p = some (.dK kvs) ∧ k = !kvs.isEmpty := e
    rcases e' with ⟨xs, hx, e'⟩ | ⟨xs, hx, e'⟩ | ⟨kvs, hx, e'⟩
    · subst e'
      obtain ⟨its, r, pl, hz⟩ := I.list hx
      have hlen := r.length
      exact wpAny_truthy_list pl.isList (by simp only [List.size_toArray]; omega) ⟨H, I.tok _, by rw [isEmpty_of r]; exact q⟩
    · subst e'
      obtain ⟨its, r, pl, hz⟩ := I.tuple hx
      have hlen := r.length
      exact truthy_tuple pl (by simp only [List.size_toArray]; omega) ⟨H, I.tok _, by rw [isEmpty_of r]; exact q⟩
    · subst e'
      obtain ⟨hz, hS, vs, r, m⟩ : kvs.length ≤ sizeLine ∧ (p == sysModules) = false ∧ ∃ vs, KV kvs vs ∧ s.heap.DictOf (mixKind X.prog X.w) p vs := I.hok p _ hx
      have hlen : kvs.length = vs.length := Paired.length r
      exact wpAny_truthy_dict hS m (by omega) ⟨H, I.tok _, by rw [isEmpty_kv r]; exact q⟩
  | _ => exact (show False from e).elim
theorem pt_truth (ha : PE X a ta) (he : ∀ whole, isTrue a X.env whole = (do let v ← whole; standAt a.pos; holding [v] (truthy v))) :
    PT X a (fun σ H Q => ta σ H fun x H' => ∃ k, TruV X.K x H' k ∧ Q k H') := by
  intro pins s σ H Q I h
  exact isTrue_plain (thn (ha pins s σ H _ I h) fun v s1 ⟨x, H1, I1, r1, q1⟩ => tru_ok pins s1 σ H1 x v Q I1 r1 q1) (he _)
theorem op_add_str : OpR X (binaryOp .Add) (fun x y H Q => ∃ i j, x = .str i ∧ y = .str j ∧ i.length + j.length ≤ sizeLine ∧ Q (.str (i ++ j)) H) := by
  intro pins s σ H x y v u Q I rx ry h
  obtain ⟨i, j, rfl, rfl, hz, q⟩ := h
  obtain ⟨t, rfl⟩ := rx
  obtain ⟨t', rfl⟩ := ry
  exact add_str (fun t' tk => ⟨.str (i ++ j), H, I.tok _, ⟨_, rfl⟩, q⟩) hz
theorem vals1 {x : V} {us : List Value} (r : Vals [x] us) : ∃ u, us = [u] ∧ RelV x u := by
  cases r with
  | cons r1 r2 => cases r2; exact ⟨_, rfl, r1⟩
theorem vals2 {x y : V} {us : List Value} (r : Vals [x, y] us) : ∃ u w', us = [u, w'] ∧ RelV x u ∧ RelV y w' := by
  cases r with
  | cons r1 r2 =>
    cases r2 with
    | cons r3 r4 => cases r4; exact ⟨_, _, rfl, r1, r3⟩
theorem call_max2 (hc : X.calm = true) : CallR X (.builtin "max") (fun xs H Q => ∃ i j, xs = [.int i, .int j] ∧ Q (.int (if j > i then j else i)) H) := by
  intro pins s σ H xs us Q I r h
  obtain ⟨i, j, rfl, q⟩ := h
  obtain ⟨u, w', rfl, ⟨t, rfl⟩, ⟨t', rfl⟩⟩ := vals2 r
  refine max_two_ints (I.ok.hd hc) fun h' tk k => ⟨_, H, I.kept k, ?_, q⟩
  by_cases hj : j > i
  · rw [if_pos hj, if_pos hj]; exact ⟨_, rfl⟩
  · rw [if_neg hj, if_neg hj]; exact ⟨_, rfl⟩
theorem call_str_int : CallR X (.type "str") (fun xs H Q => ∃ i, xs = [.int i] ∧ i.natAbs.log2 < 1920 ∧ Q (.str (toString i)) H) := by
  intro pins s σ H xs us Q I r h
  obtain ⟨i, rfl, hz, q⟩ := h
  obtain ⟨u, rfl, t, rfl⟩ := vals1 r
  exact PySem.P.str_of_int hz ⟨.str _, H, I.tok _, ⟨_, rfl⟩, q⟩
end
end L2
namespace L2
open PySem PySem.Spec PyProof.Rows
structure ObjM (h : Heap) (x dx C : Addr) (mA : Str → Option Value) : Prop where
  obj : h.get? x = some (PySem.W.instObj C dx)
  ns : h.Ns1 dx mA
  ne : dx ≠ x
theorem lookIn_ns {h : Heap} {dx : Addr} {mA : Str → Option Value} (n : h.Ns1 dx mA) : ∃ od, h.get? dx = some od ∧ ∀ name, PySem.W.lookIn name od = some (mA name) := by
  obtain ⟨o, es, ep, ho, hd, hk, _, hm⟩ := n
  refine ⟨o, ho, fun name => ?_⟩
  have e := hm name
  unfold nsFind findBy at e
  rw [← Array.find?_toList] at e
  unfold PySem.W.lookIn
  rw [hd]
  dsimp only
  split
  · rename_i y q
    rw [q] at e
    exact congrArg some e
  · rename_i q
    rw [q] at e
    have a : es.toList.any (·.refKey) = false := by
      rw [List.any_eq_false]
      intro y hy
      obtain ⟨z, t, hkey⟩ := hk y (Array.mem_toList_iff.mp hy)
      simp [DictEntry.refKey, hkey]
    have a' : ¬ es.toList.any (·.refKey) = true := by rw [a]; exact Bool.false_ne_true
    rw [if_neg a']
    exact congrArg some e
theorem ObjM.look {h : Heap} {x dx C : Addr} {mA : Str → Option Value} (I : ObjM h x dx C mA) : ∃ od, PySem.W.InstAt h x (PySem.W.instObj C dx) C (some od) ∧ ∀ name, PySem.W.lookIn name od = some (mA name) :=
  let ⟨od, ho, hl⟩ := lookIn_ns I.ns
  ⟨od, ⟨I.obj, rfl, rfl, ho⟩, hl⟩
section
variable {prog : Program} {w : World} {A : Around} {E : Value → Shared → Prop} {s : Shared} {K : PySem.W.Frag} {x dx C f : Addr} {mA : Str → Option Value} {name : Str} {v : Value}
end
section
variable {P : Program} {w : World} {H H' : Hp} {h h' : Heap} {a C dx : Addr} {fs fs' : List (Str × V)}
theorem ins_get (hok : HOk P w H h) (e : H a = some (.ins C dx fs)) : ∃ mA, ObjM h a dx C mA ∧ (∀ f, RelO (fs.lookup f) (mA f)) ∧ PySem.Within mA (fs.map (·.1)) ∧ fs.length ≤ 1000 ∧ H dx = some (.own a) := by
  obtain ⟨d, z, ne, ob, mA, n, r, q⟩ := (show ObjOk P w H h a (.ins C dx fs) from hok a _ e)
  exact ⟨mA, ⟨ob, n, ne⟩, r, q, z, d⟩
end
structure Cls (K : PySem.W.Frag) (C : Addr) : Prop where
  pg : PySem.W.plainGet K C Str.empty = true
  hd : PySem.W.hasDictIn K C = true
  po : PySem.W.plainOver K C = true
  sa : PySem.W.findIn K (.ref C) "__setattr__" = some (some (.builtin "object.__setattr__"))
theorem Cls.get {K : PySem.W.Frag} {C : Addr} (c : Cls K C) (f : Str) : PySem.W.plainGet K C f = true := c.pg
section
variable {X : Cx} {pins : List (Addr × Obj)} {σ : St} {H : Hp} {s : Shared} {a C dx : Addr} {fs : List (Str × V)} {f : Str} {v : V} {A : Around} {E : Value → Shared → Prop}
theorem attr_of {prog : Program} {w : World} {env : Env} {e : Expr} {f : Str} {pos : Pos} {s : Shared} {Q : Value → Shared → Prop} (hb : attributeBase e f env (eval e env) = eval e env)
    (h : wpAny (model prog w) A (eval e env) (fun o s₁ => wpAny (model prog w) A (getAttr o f true) Q E s₁) E s) : wpAny (model prog w) A (eval (.Attribute e f pos) env) Q E s :=
  Attribute_any_ h (by rw [arm_eval_Attribute, hb])
end
section
variable {X : Cx} {o e value : Expr} {f : Str} {pos pos' tpos : Pos} {ta tv : TE}
end
section
variable {X : Cx} {pins : List (Addr × Obj)} {σ : St} {H : Hp} {s : Shared} {A : Around} {E : Value → Shared → Prop} {Q : Value → Shared → Prop} {c : Value} {b : Bool}
inductive TyOf (K : PySem.W.Frag) (H : Hp) : V → Value → Prop where
  | non : TyOf K H .non (.type "NoneType")
  | bl (x : Bool) : TyOf K H (.bl x) (.type "bool")
  | int (i : Int) : TyOf K H (.int i) (.type "int")
  | str (x : Str) : TyOf K H (.str x) (.type "str")
  | flt (x : UInt64) : TyOf K H (.flt x) (.type "float")
  | lst {a : Addr} {xs : List V} (e : H a = some (.lst xs)) : TyOf K H (.ref a) (.type "list")
  | frz {a : Addr} {o : Obj} {xs : List V} (e : H a = some (.frz o (.lst xs))) : TyOf K H (.ref a) (.type "list")
  | tup {a : Addr} {xs : List V} (e : H a = some (.tup xs)) : TyOf K H (.ref a) (.type "tuple")
  | dK {a : Addr} {kvs : List (Key × V)} (e : H a = some (.dK kvs)) : TyOf K H (.ref a) (.type "dict")
  | dT {a : Addr} {kvs : List (List Key × V)} (e : H a = some (.dT kvs)) : TyOf K H (.ref a) (.type "dict")
  | ins {a C dx : Addr} {fs : List (Str × V)} (e : H a = some (.ins C dx fs)) (cl : Cls K C) (ha : PySem.W.findIn K (.ref C) "__class__" = some (some (.builtin "object.__class__")))
      (hn : PySem.W.specialIn K (.builtin "object.__class__") "__get__" = some (some (.builtin "getset_descriptor.__get__"))) (htk : PySem.W.takesIn K (.builtin "object.__class__") = some true)
      (hm : PySem.W.mroIn K C (.type "object") = some true) : TyOf K H (.ref a) (.ref C)
theorem isinst_ok {x : V} {u t : Value} (I : Inv X pins σ H s) (rx : RelV x u) (ty : TyOf X.K H x t) (e : PySem.W.kitOne X.K t c = some b) (h : ∀ tk, Q (.bool b) { s with toks := tk }) :
    wpAny (model X.prog X.w) A (call (.builtin "isinstance") [u, c]) Q E s := by
  cases ty with
  | non => cases (show u = Value.none from rx); exact PySem.W.kia_one PySem.W.kitx_none I.kIn True.intro e (fun z => nomatch z) h
  | bl y => cases (show u = Value.bool y from rx); exact PySem.W.kia_one PySem.W.kitx_bool I.kIn True.intro e (fun z => nomatch z) h
  | int i => obtain ⟨t, q⟩ := (show ∃ t, u = Value.int i t from rx); cases q; exact PySem.W.kia_one PySem.W.kitx_int I.kIn True.intro e (fun z => nomatch z) h
  | str y => obtain ⟨t, q⟩ := (show ∃ t, u = Value.str y t from rx); cases q; exact PySem.W.kia_one PySem.W.kitx_str I.kIn True.intro e (fun z => nomatch z) h
  | flt y => obtain ⟨t, q⟩ := (show ∃ t, u = Value.float y t from rx); cases q; exact PySem.W.kia_one PySem.W.kitx_float I.kIn True.intro e (fun z => nomatch z) h
  | @lst a xs ea =>
    cases (show u = Value.ref a from rx)
    obtain ⟨_, _, n, _, h1⟩ := (show ObjOk X.prog X.w H s.heap a (.lst xs) from I.hok a _ ea)
    exact PySem.W.kia_one PySem.W.kitx_list I.kIn ⟨_, h1, rfl⟩ e (fun z => nomatch z) h
  | @frz a ob xs ea =>
    cases (show u = Value.ref a from rx)
    obtain ⟨_, _, _, n, _, h1⟩ := (show ObjOk X.prog X.w H s.heap a (.frz ob (.lst xs)) from I.hok a _ ea)
    exact PySem.W.kia_one PySem.W.kitx_list I.kIn ⟨_, h1, rfl⟩ e (fun z => nomatch z) h
  | @tup a xs ea =>
    cases (show u = Value.ref a from rx)
    obtain ⟨_, _, _, p⟩ := (show ObjOk X.prog X.w H s.heap a (.tup xs) from I.hok a _ ea)
    obtain ⟨o, h1, h2, _⟩ := p
    exact PySem.W.kia_one PySem.W.kitx_tuple I.kIn ⟨o, h1, h2⟩ e (fun z => nomatch z) h
  | @dK a kvs ea =>
    cases (show u = Value.ref a from rx)
    obtain ⟨_, _, vs, _, p⟩ := (show ObjOk X.prog X.w H s.heap a (.dK kvs) from I.hok a _ ea)
    obtain ⟨o, es, ep, h1, h2, _⟩ := p
    exact PySem.W.kia_one PySem.W.kitx_dict I.kIn ⟨o, h1, h2.1⟩ e (fun z => nomatch z) h
  | @dT a kvs ea =>
    cases (show u = Value.ref a from rx)
    obtain ⟨_, _, xs, _, o, es, ep, h1, h2, _⟩ := (show ObjOk X.prog X.w H s.heap a (.dT kvs) from I.hok a _ ea)
    exact PySem.W.kia_one PySem.W.kitx_dict I.kIn ⟨o, h1, h2.1⟩ e (fun z => nomatch z) h
  | @ins a C dx fs ea cl ha hn htk hm =>
    cases (show u = Value.ref a from rx)
    obtain ⟨mA, O, _⟩ := ins_get I.hok ea
    obtain ⟨od, J, _⟩ := O.look
    exact PySem.W.kia_one (PySem.W.kitx_own (cl.get _) cl.hd ha hn htk hm) I.kIn J e (fun z => nomatch z) h
end
end L2
namespace L2
open PySem PySem.Spec PyProof.Rows
structure Room (k : Nat) (A : Around) : Prop where
  hd : A.handled = none
  dp : A.depth + 3 * k + 5 < recursionLimit
  un : A.units + 16 * k + 200 < cLine
theorem Room.mono {j k : Nat} {A : Around} (r : Room k A) (h : j ≤ k) : Room j A := ⟨r.hd, by have := r.dp; omega, by have := r.un; omega⟩
theorem Room.deeper {k : Nat} {A : Around} (r : Room (k + 1) A) (env : Env) : Room k (A.deeper env) :=
  ⟨r.hd, by have := r.dp; show A.depth + 1 + 3 * k + 5 < _; omega, by have := r.un; show A.units + 3 + 16 * k + 200 < _; omega⟩
theorem make_depth {A : Around} {C : Addr} {us : List Value} {kw : List (Str × Value)} : (A.under (.builtin "type.__call__" ⟨.ref C :: us, kw⟩)).depth = A.depth + 1 := by
  first | rfl | simp [Around.under, Code.weight, Code.isCreation, Code.isGuard, Code.isCaller, Code.frames, Code.isFrame, guardIds]
theorem make_units {A : Around} {C : Addr} {us : List Value} {kw : List (Str × Value)} : (A.under (.builtin "type.__call__" ⟨.ref C :: us, kw⟩)).units = A.units + 1 := by
  first | rfl | simp [Around.under, Code.cUnits, Code.frames, Code.isFrame]
theorem Room.make {k : Nat} {A : Around} (r : Room (k + 1) A) (C : Addr) (us : List Value) (kw : List (Str × Value)) : Room k (A.under (.builtin "type.__call__" ⟨.ref C :: us, kw⟩)) :=
  ⟨r.hd, by have := r.dp; rw [make_depth]; omega, by have := r.un; rw [make_units]; omega⟩
theorem Room.depth {k : Nat} {A : Around} (r : Room k A) : A.depth < recursionLimit := by have := r.dp; omega
theorem Room.units {k : Nat} {A : Around} (r : Room k A) : A.units + 64 < cLine := by have := r.un; omega
def tNil : TA := fun _ H Q => Q [] H
def tCons (ta : TE) (tr : TA) : TA := fun σ H Q => ta σ H fun x H1 => tr σ H1 fun xs H2 => Q (x :: xs) H2
section
variable {X : Cx} {e : Expr} {es : List Expr} {te : TE} {t : TA} {pos : Pos}
theorem pa_nil : PA X [] tNil := fun _ _ _ _ H Q I h => Calls.spliced_nil ⟨[], H, I, .nil, h⟩
theorem pa_cons (ha : PE X e te) (hr : PA X es t) (hs : starEach (e :: es) X.env = (false, eval e X.env) :: starEach es X.env := by rfl) : PA X (e :: es) (tCons te t) := by
  intro pos pins s σ H Q I h
  rw [hs]
  show wpAny _ _ (spliced ((false, eval e X.env) :: backTo pos (starEach es X.env))) _ _ s
  refine Calls.spliced_cons (thn (ha pins s σ H _ I h) fun u s1 ⟨x, H1, I1, r1, q1⟩ => ?_)
  exact thn (hr pos pins s1 σ H1 _ I1 q1) fun us s2 ⟨xs, H2, I2, r2, q2⟩ => ⟨x :: xs, H2, I2, .cons r1 r2, q2⟩
def tTup (t : TA) : TE := fun σ H Q => t σ H fun xs H1 => xs.length ≤ sizeLine ∧ ∀ p, H1 p = none → Q (.ref p) (upd H1 p (.tup xs))
def tLst (t : TA) : TE := fun σ H Q => t σ H fun xs H1 => xs.length ≤ sizeLine ∧ ∀ p, H1 p = none → Q (.ref p) (upd H1 p (.lst xs))
theorem pe_tup {x1} (h : PA X es t) : PE X (.Tuple es x1 pos) (tTup t) := by
  intro pins s σ H Q I hq
  refine wpAny_Tuple_spliced (thn (h pos pins s σ H _ I hq) fun us s1 ⟨xs, H1, I1, r, z, q⟩ => ⟨by rw [← r.length]; exact z, ?_⟩)
  have hf : H1 s1.heap.objs.size = none := I1.hok.fresh (Nat.le_refl _)
  refine ⟨.ref s1.heap.objs.size, upd H1 s1.heap.objs.size (.tup xs), I1.laid (t' := s1.toks) (fun b u e => Heap.get?_push_of_some _ e) (Nat.le_refl _) ?_, rfl, q _ hf⟩
  exact ⟨z, us, r, ⟨_, Heap.get?_push_size _ rfl, rfl, _, rfl⟩⟩
theorem pe_lst (h : PA X es t) : PE X (.List es pos) (tLst t) := by
  intro pins s σ H Q I hq
  refine wpAny_List_spliced (thn (h pos pins s σ H _ I hq) fun us s1 ⟨xs, H1, I1, r, z, q⟩ => ⟨by rw [← r.length]; exact z, ?_⟩)
  have hf : H1 s1.heap.objs.size = none := I1.hok.fresh (Nat.le_refl _)
  refine ⟨.ref s1.heap.objs.size, upd H1 s1.heap.objs.size (.lst xs), I1.laid (t' := s1.toks) (fun b u e => Heap.get?_push_of_some _ e) (Nat.le_refl _) ?_, rfl, q _ hf⟩
  exact ⟨z, us, 0, r, Heap.get?_push_size _ rfl⟩
end
abbrev Sp := List V → Hp → VK → XK → Prop
abbrev CXT := List Env → Hp → Shared → XK → Value → Shared → Prop
structure Env0 (P : Program) (w : World) (K : PySem.W.Frag) (mg : Str → Option Value) (base : Heap) (A : Around) (outer : List Env) (s : Shared) (H : Hp) : Prop where
  frames : A.frames = some outer
  mod : Mod K mg base
  bs : ∀ b o, base.get? b = some o → s.heap.get? b = some o ∧ H b = none
  bsz : base.objs.size ≤ s.heap.objs.size
  funs : s.heap.FunFrames base outer
  frf : ∀ b ∈ frs outer, H b = none
  hok : HOk P w H s.heap
  bare : AllBare s.gens
def CE (outer : List Env) (P : Program) (w : World) (H : Hp) (s : Shared) (Q : VK) (u : Value) (s' : Shared) : Prop :=
  ∃ v H', s'.os = s.os ∧ AllBare s'.gens ∧ Un (frs outer) [] H H' s.heap s'.heap ∧ HOk P w H' s'.heap ∧ RelV v u ∧ Q v H'
def CR (CX : CXT) (outer : List Env) (P : Program) (w : World) (H : Hp) (s : Shared) (Q : VK) (E : XK) (r : Result) (s' : Shared) : Prop :=
  match r with
  | .ok (.ret u) => CE outer P w H s Q u s'
  | .ok _ => False
  | .error e => CX outer H s E e s'
structure FnOk (P : Program) (w : World) (K : PySem.W.Frag) (mg : Str → Option Value) (base : Heap) (CX : CXT) (k : Nat) (f : Addr) (fd : FuncData) (ps : List Str) (sp : Sp) : Prop where
  len : ∀ vs H Q E, sp vs H Q E → vs.length = ps.length
  run : ∀ (A : Around) (outer : List Env) (s : Shared) (H : Hp) (args : Args) (us : List Value) (vs : List V) (Q : VK) (E : XK), Room k A → Env0 P w K mg base A outer s H → BindsTo s fd args (ps.zip us) → Vals vs us → sp vs H Q E →
    codeAny (model P w) A (.call (.ref f) args) (CR CX outer P w H s Q E) s
theorem Env0.make {P : Program} {w : World} {K : PySem.W.Frag} {mg : Str → Option Value} {base : Heap} {A : Around} {outer : List Env} {s : Shared} {H : Hp} (e : Env0 P w K mg base A outer s H) (C : Addr) (us : List Value) (kw : List (Str × Value)) :
    Env0 P w K mg base (A.under (.builtin "type.__call__" ⟨.ref C :: us, kw⟩)) outer s H := ⟨by first | exact e.frames | (simpa [Around.under, Code.envs, Code.isFrame, pushEnvs] using e.frames), e.mod, e.bs, e.bsz, e.funs, e.frf, e.hok, e.bare⟩
section
variable {X : Cx} {pins : List (Addr × Obj)} {σ : St} {H : Hp} {s s' : Shared}
theorem Inv.env0 (I : Inv X pins σ H s) : Env0 X.prog X.w X.K X.mg X.base X.A X.stack s H :=
  ⟨I.ok.frames, I.ok.mod, I.bs, Nat.le_trans I.ok.bsz I.sz, I.stack, I.stkFree, I.hok, I.bare⟩
theorem Inv.after {Q : VK} {u : Value} (I : Inv X pins σ H s) (h : CE X.stack X.prog X.w H s Q u s') : EP X pins σ Q u s' := by
  obtain ⟨v, H', os, bare, un, hok, r, q⟩ := h
  obtain ⟨hh, g, d, t, os'⟩ := s'
  obtain rfl : os' = s.os := os
  exact ⟨v, H', I.call (h' := hh) (g' := g) (d' := d) (t' := t) (ch := []) un hok bare (fun b z => absurd z (by simp)), r, q⟩
end
def tCall (sp : Sp) (dvs : List V) (E : XK) (t : TA) : TE := fun σ H Q => t σ H fun vs H1 => sp (vs ++ dvs) H1 Q E
def Binds (K : PySem.W.Frag) (fd : FuncData) (ps : List Str) (ds : List Value) : Prop :=
  ∀ (s : Shared) (us : List Value), K.In s.heap → (us ++ ds).length = ps.length → BindsTo s fd ⟨us, []⟩ (ps.zip (us ++ ds))
theorem Binds.all {K : PySem.W.Frag} {fd : FuncData} {ps : List Str} (h : ∀ us : List Value, us.length = ps.length → bindArgs fd ⟨us, []⟩ = pure (ps.zip us)) : Binds K fd ps [] := fun s us _ hl => by
  rw [List.append_nil] at hl ⊢
  exact .of_eq (h us hl)
def Passes (CX : CXT) (X : Cx) (E : XK) : Prop := ∀ (pins : List (Addr × Obj)) (σ : St) (H : Hp) (s : Shared) (e : Value) (s' : Shared), Inv X pins σ H s → CX X.stack H s E e s' → X.xe e s'
section
variable {X : Cx} {CX : CXT} {k : Nat} {f C : Addr} {fd : FuncData} {ps : List Str} {sp : Sp} {dvs : List V} {ds : List Value} {E : XK} {x m : Str} {p pos apos : Pos} {e o : Expr} {es : List Expr} {ta : TE} {t : TA}
theorem run_fn {pins : List (Addr × Obj)} {σ : St} {H : Hp} {s : Shared} {Q : VK} {us : List Value} {vs : List V} (F : FnOk X.prog X.w X.K X.mg X.base CX k f fd ps sp) (hr : Room k X.A) (hb : Binds X.K fd ps ds) (hd : Vals dvs ds) (hx : Passes CX X E)
    (I : Inv X pins σ H s) (r : Vals vs us) (h : sp (vs ++ dvs) H Q E) : wpAny (model X.prog X.w) X.A (call (.ref f) us) (EP X pins σ Q) X.xe s := by
  have r2 : Vals (vs ++ dvs) (us ++ ds) := r.append hd
  have hl : (us ++ ds).length = ps.length := by rw [← r2.length]; exact F.len _ _ _ _ h
  refine wpAny_call (codeAny_mono (F.run X.A X.stack s H ⟨us, []⟩ (us ++ ds) (vs ++ dvs) Q E hr I.env0 (hb s us I.kIn hl) r2 h) fun r s' hq => ?_)
  cases r with
  | error e => exact hx pins σ H s e s' I hq
  | ok fl =>
    cases fl with
    | ret u => exact I.after hq
    | next => exact False.elim hq
    | brk => exact False.elim hq
    | cont => exact False.elim hq
theorem pe_call (F : FnOk X.prog X.w X.K X.mg X.base CX k f fd ps sp) (hr : Room k X.A) (hg : Gl X x) (hm : X.mg x = some (.ref f)) (hk : PySem.W.keepIn X.K (.ref f) = true) (hb : Binds X.K fd ps ds) (hd : Vals dvs ds) (hx : Passes CX X E)
    (ha : PA X (e :: es) t) (hdb : (x == ("__debug__" : Str)) = false := by decide) (he : starEach (e :: es) X.env = (false, eval e X.env) :: starEach es X.env := by rfl) (hpl : (backTo pos (starEach es X.env)).any (·.1) = false := by rfl) :
    PE X (.Call (.Name x p) (e :: es) [] pos) (tCall sp dvs E t) := by
  intro pins s σ H Q I h
  refine wpAny_Call_Name_kw (ld_glob I hg hm ?_ hdb)
  refine PySem.W.callWith_K (h₀ := X.base) I.ok.mod.kin hk (thn (ha pos pins s σ H _ I h) fun us s1 ⟨vs, H1, I1, r, q⟩ => ⟨I1.kIn, ?_⟩) he hpl
  exact run_fn F hr hb hd hx I1 r q
end
section
variable {X : Cx} {CX : CXT} {k : Nat} {f C : Addr} {fd : FuncData} {ps ks : List Str} {sp : Sp} {E : XK} {x m : Str} {p pos apos kpos : Pos} {e o : Expr} {es : List Expr} {kws : List Keyword} {te ta : TE} {t tk : TA} {nm : Option Str}
variable {g : List Value → List Value → List Value} {gV : List V → List V → List V}
end
structure FnScope (N P : List Str) (sc : Scope) : Prop where
  kind : sc.kind = .function
  co : sc.isCoroutine = false
  gen : sc.isGenerator = false
  nd : N.Nodup
  pre : N.take P.length = P
  par : ∀ x ∈ P, sc.names.lookup x = some .local ∨ sc.names.lookup x = some .cell
  nofree : ∀ y ∈ sc.names, y.2 ≠ .free
theorem bindL_out {kindOf : Str → Option NameKind} {x : Str} : ∀ {binds : List (Str × Value)} {m : Str → Option Value}, (∀ v, (x, v) ∉ binds) → bindL kindOf binds m x = m x
  | [], _, _ => rfl
  | (n, v) :: r, m, h => by
    unfold bindL
    rw [bindL_out fun w hw => h w (List.mem_cons_of_mem _ hw)]
    split
    · have : x ≠ n := by rintro rfl; exact h v List.mem_cons_self
      simp [this]
    · rfl
theorem bindC_out {kindOf : Str → Option NameKind} {x : Str} : ∀ {binds : List (Str × Value)} {m : Str → Option Value}, (∀ v, (x, v) ∉ binds) → bindC kindOf binds m x = m x
  | [], _, _ => rfl
  | (n, v) :: r, m, h => by
    unfold bindC
    rw [bindC_out fun w hw => h w (List.mem_cons_of_mem _ hw)]
    split
    · rfl
    · have : x ≠ n := by rintro rfl; exact h v List.mem_cons_self
      simp [this]
theorem bindL_get {kindOf : Str → Option NameKind} {x : Str} {v : Value} : ∀ {P : List Str} {vs : List Value} {i : Nat} {m : Str → Option Value}, P.Nodup → P[i]? = some x → vs[i]? = some v → kindOf x = some .local →
    bindL kindOf (P.zip vs) m x = some v
  | [], _, _, _, _, h, _, _ => by simp at h
  | _ :: _, [], _, _, _, _, h, _ => by simp at h
  | p :: P, w :: vs, 0, m, nd, h1, h2, hk => by
    simp at h1 h2; subst h1; subst h2
    show bindL kindOf ((p, w) :: P.zip vs) m p = _
    unfold bindL
    rw [bindL_out fun v hv => (List.nodup_cons.mp nd).1 (List.of_mem_zip hv).1, if_pos hk]
    simp
  | p :: P, w :: vs, i + 1, m, nd, h1, h2, hk => by
    show bindL kindOf ((p, w) :: P.zip vs) m x = _
    unfold bindL
    exact bindL_get (i := i) (List.nodup_cons.mp nd).2 (by simpa using h1) (by simpa using h2) hk
theorem bindC_get {kindOf : Str → Option NameKind} {x : Str} {v : Value} : ∀ {P : List Str} {vs : List Value} {i : Nat} {m : Str → Option Value}, P.Nodup → P[i]? = some x → vs[i]? = some v → kindOf x ≠ some .local →
    bindC kindOf (P.zip vs) m x = some v
  | [], _, _, _, _, h, _, _ => by simp at h
  | _ :: _, [], _, _, _, _, h, _ => by simp at h
  | p :: P, w :: vs, 0, m, nd, h1, h2, hk => by
    simp at h1 h2; subst h1; subst h2
    show bindC kindOf ((p, w) :: P.zip vs) m p = _
    unfold bindC
    rw [bindC_out fun v hv => (List.nodup_cons.mp nd).1 (List.of_mem_zip hv).1, if_neg hk]
    simp
  | p :: P, w :: vs, i + 1, m, nd, h1, h2, hk => by
    show bindC kindOf ((p, w) :: P.zip vs) m x = _
    unfold bindC
    exact bindC_get (i := i) (List.nodup_cons.mp nd).2 (by simpa using h1) (by simpa using h2) hk
def start (N : List Str) (vs : List V) : St := vs.map some ++ List.replicate (N.length - vs.length) none
def cxOf (CX : CXT) (P : Program) (w : World) (K : PySem.W.Frag) (mg : Str → Option Value) (base : Heap) (N : List Str) (qual : Str) (scope : Scope) (f : Addr) (cd : Value) (A : Around) (outer : List Env) (s : Shared) (H : Hp) (E : XK) : Cx where
  prog := P
  w := w
  K := K
  mg := mg
  base := base
  A := A.deeper (envOfC qual scope s.heap.objs.size f cd)
  N := N
  s₀ := s
  H₀ := H
  env := envOfC qual scope s.heap.objs.size f cd
  outer := outer
  stack := envOfC qual scope s.heap.objs.size f cd :: outer
  ex := []
  calm := true
  fn := fun _ => true
  pn := []
  xe := fun e s' => wpAny (model P w) (A.deeper (envOfC qual scope s.heap.objs.size f cd)) (leaving (envOfC qual scope s.heap.objs.size f cd) e) (fun _ s'' => CX outer H s E e s'') (fun e' s'' => CX outer H s E e' s'') s'
theorem cell_has {sc : Scope} {n : Nat} {x : Str} (h : sc.names.lookup x = some .cell) : ∃ c, (cellsFrom n sc.names []).lookup x = some c := by
  have q := PySem.W.cellsFrom_some sc.names n [] (.inl h)
  exact Option.isSome_iff_exists.mp q
theorem inv_start {CX : CXT} {P : Program} {w : World} {K : PySem.W.Frag} {mg : Str → Option Value} {base : Heap} {N ps : List Str} {qual : Str} {scope : Scope} {f : Addr} {cd : Value} {A : Around} {outer : List Env} {s s1 : Shared} {H : Hp} {E : XK} {us : List Value} {vs : List V}
    (S : FnScope N ps scope) (hd : A.handled = none) (e0 : Env0 P w K mg base A outer s H) (hl : vs.length = ps.length) (r : Vals vs us)
    (x : InCallC s s.heap.objs.size (bindL (envOfC qual scope s.heap.objs.size f cd).kindOf (ps.zip us) fun _ => none) (cellsFrom (s.heap.objs.size + 1) scope.names []) (bindC (envOfC qual scope s.heap.objs.size f cd).kindOf (ps.zip us) fun _ => none) s1) :
    Inv (cxOf CX P w K mg base N qual scope f cd A outer s H E) [] (start N vs) H s1 := by
  have hpl : ps.length ≤ N.length := by have := congrArg List.length S.pre; rw [List.length_take] at this; omega
  obtain ⟨h1, tk, rfl, hk⟩ := x.done
  have noA : ∀ b : Addr, b ∉ (cxOf CX P w K mg base N qual scope f cd A outer s H E).ex := fun b z => absurd (show b ∈ ([] : List Addr) from z) (by simp)
  refine ⟨⟨e0.mod, S.kind, rfl, rfl, Nat.le_refl _, fun y z c h1 h2 => ?_, fun y hy => ?_, fun y c _ h => ?_, fun _ => hd, Around.frames_deeper e0.frames, .inr ⟨rfl, rfl⟩, fun b z => absurd z (noA b), e0.bs, e0.bsz, fun b _ _ => noA b, fun b z => absurd z (noA b), e0.funs, e0.frf⟩,
    rfl, e0.bare, Un.kept hk, ⟨_, x.toInCall.ns, fun i y v h1 h2 h3 => ?_⟩, fun y c h => ⟨_, x.cell y c h⟩, e0.hok.fresh (Nat.le_refl _), fun y c h => ?_, fun p hp => absurd (show p ∈ ([] : List (Addr × Obj)) from hp) (by simp), e0.hok.kept hk, ?_⟩
  · exact name_of_addr x.apart (PySem.mem_of_lookup h1) (PySem.mem_of_lookup h2)
  · have hy : scope.names.lookup y = some .cell ∨ scope.names.lookup y = some .free := hy
    rcases hy with hy | hy
    · exact cell_has hy
    · exact absurd rfl (S.nofree _ (PySem.mem_of_lookup hy))
  · exact Nat.le_of_lt (x.above y c (PySem.mem_of_lookup h))
  · have hi : i < vs.length := by
      unfold start at h2
      by_cases hi : i < vs.length
      · exact hi
      · rw [List.getElem?_append_right (by simpa using hi)] at h2
        rw [List.getElem?_replicate] at h2
        split at h2 <;> cases h2
    have ha : vs[i]? = some v := by
      unfold start at h2
      rw [List.getElem?_append_left (by simpa using hi), List.getElem?_map] at h2
      cases e : vs[i]? with
      | none => rw [e] at h2; cases h2
      | some a => rw [e] at h2; cases h2; rfl
    obtain ⟨u, hu, rv⟩ := r.get ha
    have hp : ps[i]? = some y := by
      rw [← S.pre, List.getElem?_take_of_lt (by omega)]; exact h1
    have ndP : ps.Nodup := by rw [← S.pre]; exact S.nd.sublist (List.take_sublist _ _)
    refine ⟨u, rv, ?_⟩
    rcases S.par y (List.mem_of_getElem? hp) with k | k
    · exact .inl ⟨k, bindL_get ndP hp hu k⟩
    · obtain ⟨c, e⟩ := cell_has (n := s.heap.objs.size + 1) k
      refine .inr ⟨.inl k, c, e, ?_⟩
      have q := x.cell y c e
      rw [bindC_get ndP hp hu (by show scope.names.lookup y ≠ _; rw [k]; decide)] at q
      exact q
  · exact e0.hok.fresh (Nat.le_of_lt (x.above y c (PySem.mem_of_lookup h)))
  · unfold start
    show _ = N.length
    rw [List.length_append, List.length_map, List.length_replicate]
    omega
theorem fn_of {CX : CXT} {P : Program} {w : World} {K : PySem.W.Frag} {mg : Str → Option Value} {base : Heap} {k : Nat} {f : Addr} {name qual : Str} {params : Arguments} {body : List Stmt} {scope : Scope} {dV kV doc pm cdv ct oc : Value} {an od : Option Addr}
    {osl : Array (Option Value)} {N ps : List Str} {sp : Sp} (lk : K.lookup f = some ⟨oc, od, .func (PySem.W.fnOf name qual params body scope dV kV doc pm an cdv ct), osl⟩) (hcd : PySem.W.codeIn K cdv qual = true) (S : FnScope N ps scope)
    (len : ∀ vs H Q E, sp vs H Q E → vs.length = ps.length)
    (hbody : ∀ (A : Around) (outer : List Env) (s : Shared) (H : Hp) (vs : List V) (Q : VK) (E : XK), Room k (A.deeper (envOfC qual scope s.heap.objs.size f cdv)) → sp vs H Q E →
      ∃ t, PSs (cxOf CX P w K mg base N qual scope f cdv A outer s H E) body t ∧ t { nx := fun _ H' => Q .non H', rt := Q } (start N vs) H) :
    FnOk P w K mg base CX (k + 1) f (PySem.W.fnOf name qual params body scope dV kV doc pm an cdv ct) ps sp := by
  refine ⟨len, fun A outer s H args us vs Q E hr e0 hb r hsp => ?_⟩
  have hl := len _ _ _ _ hsp
  have KX : K.In s.heap := e0.mod.kin.keeps fun b o e => (e0.bs b o e).1
  have lim : s.heap.NoLimit := e0.mod.nolimit.keeps fun b o e => (e0.bs b o e).1
  have hkind : ∀ y ∈ ps.zip us, scope.names.lookup y.1 = some .local ∨ (scope.names.lookup y.1 = some .cell ∧ ((cellsFrom (s.heap.objs.size + 1) scope.names []).lookup y.1).isSome = true) := fun ⟨n, v⟩ hy => by
    rcases S.par n (List.of_mem_zip hy).1 with q | q
    · exact .inl q
    · exact .inr ⟨q, PySem.W.cellsFrom_some _ _ _ (.inl q)⟩
  refine codeAny_call_function hr.depth (KX _ _ lk) rfl S.co S.gen rfl (PySem.W.codeRec_of KX hcd) (hb _ _ _ _ ?_)
  refine wpAny_newFunctionEnv_cells S.kind hkind fun env he s1 x => ?_
  subst he
  refine ⟨lim.keeps x.toInCall.keep, codeAny_func ?_⟩
  obtain ⟨t, ht, hq⟩ := hbody A outer s H vs Q E (hr.deeper _) hsp
  have I : Inv (cxOf CX P w K mg base N qual scope f cdv A outer s H E) [] (start N vs) H s1 := inv_start S hr.hd e0 hl r x
  refine wpAny_mono (ht [] s1 (start N vs) H _ I hq) (fun fl s' hs => ?_) fun e s' hs => hs
  have fin : ∀ {σ' : St} {H' : Hp} {v : V} {u : Value}, Inv (cxOf CX P w K mg base N qual scope f cdv A outer s H E) [] σ' H' s' → RelV v u → Q v H' → CE outer P w H s Q u s' :=
    fun {σ' H' v u} J rv q => ⟨v, H', J.os, J.bare, J.base, J.hok, rv, q⟩
  cases fl with
  | ret u =>
    obtain ⟨v, σ', H', J, rv, q⟩ := hs
    exact fin J rv q
  | next =>
    obtain ⟨σ', H', J, q⟩ := hs
    exact fin (v := V.non) (u := Value.none) J rfl q
  | brk =>
    obtain ⟨_, _, _, q⟩ := hs
    exact False.elim q
  | cont =>
    obtain ⟨_, _, _, q⟩ := hs
    exact False.elim q
end L2
namespace L2
open PySem PySem.Spec PyProof.Rows
section
variable {X : Cx} {x : Str} {p pos : Pos} {e : Expr} {es : List Expr} {t : TA} {id T : String} {r : List V → Hp → VK → Prop}
def tCB (r : List V → Hp → VK → Prop) (t : TA) : TE := fun σ H Q => t σ H fun vs H1 => r vs H1 Q
theorem pe_callB (hc : CallR X (.builtin id) r) (hg : Gl X x) (hm : X.mg x = none) (hv : bootBuiltins x = some (.builtin id)) (ha : PA X (e :: es) t) (hn : x ≠ "__name__" := by decide) (hdb : (x == ("__debug__" : Str)) = false := by decide)
    (he : starEach (e :: es) X.env = (false, eval e X.env) :: starEach es X.env := by rfl) (hpl : (backTo pos (starEach es X.env)).any (·.1) = false := by rfl) : PE X (.Call (.Name x p) (e :: es) [] pos) (tCB r t) := by
  intro pins s σ H Q I h
  refine wpAny_Call_Name_kw (ld_blt I hg hm hv ?_ hn hdb)
  exact PyProof.Rows.callWith_builtin1 (thn (ha pos pins s σ H _ I h) fun us s1 ⟨vs, H1, I1, r1, q1⟩ => hc pins s1 σ H1 vs us Q I1 r1 q1) he hpl
theorem pe_callTy (hc : CallR X (.type T) r) (hg : Gl X x) (hm : X.mg x = none) (hv : bootBuiltins x = some (.type T)) (ha : PA X (e :: es) t) (hn : x ≠ "__name__" := by decide) (hdb : (x == ("__debug__" : Str)) = false := by decide)
    (he : starEach (e :: es) X.env = (false, eval e X.env) :: starEach es X.env := by rfl) (hpl : (backTo pos (starEach es X.env)).any (·.1) = false := by rfl) : PE X (.Call (.Name x p) (e :: es) [] pos) (tCB r t) := by
  intro pins s σ H Q I h
  refine wpAny_Call_Name_kw (ld_blt I hg hm hv ?_ hn hdb)
  exact PyProof.Rows.callWith_type1 (thn (ha pos pins s σ H _ I h) fun us s1 ⟨vs, H1, I1, r1, q1⟩ => hc pins s1 σ H1 vs us Q I1 r1 q1) he hpl
end
end L2
namespace HT
open PySem PyProof.Rows
def lexLt : List Int → List Int → Bool
  | [], [] => false
  | [], _ :: _ => true
  | _ :: _, [] => false
  | x :: xs, y :: ys => if x = y then lexLt xs ys else decide (x < y)
theorem lexLt_cons (x y : Int) (xs ys : List Int) : lexLt (x :: xs) (y :: ys) = if x = y then lexLt xs ys else decide (x < y) := rfl
theorem lexLt_nil_nil : lexLt [] [] = false := rfl
theorem lexLt_nil_cons (y : Int) (ys : List Int) : lexLt [] (y :: ys) = true := rfl
theorem lexLt_cons_nil (x : Int) (xs : List Int) : lexLt (x :: xs) [] = false := rfl
theorem eqAt_int (A : Around) (s : Shared) (a : Int) (t : Tok) (c : Int) (u : Tok) : ∃ e, SeqAt.EqAt A s (.int a t) (.int c u) e ∧ (e = true ↔ a = c) :=
  ⟨(a == c), SeqAt.EqAt.int_int a t c u, by simp⟩
theorem rcLt_int (A : Around) (s : Shared) (a : Int) (t : Tok) (c : Int) (u : Tok) (prog : Program) (w : World) (E : Value → Shared → Prop) (Q : Value → Shared → Prop) (h : Q (.bool (decide (a < c))) s) :
    wpAny (model prog w) A (richCompare .Lt (.int a t) (.int c u)) Q E s :=
  (PyProof.Rows.lt_int h : wpAny (model prog w) A (compareOp .Lt (.int a t) (.int c u)) Q E s)
section
open PySem.SeqAt
open PySem.AutoSeq1 (wpAny_loadPart')
open PySem.MeetsSeq PySem.MeetsSeq2 PySem.MeetsSeq3
theorem tuple_lt_ints (l b : Addr) (items items2 : Array Value) (n n2 : Nat) (dd dd2 : Option Addr) (sl sl2 : Array (Option Value)) (ns ms : List Int) (hi : IntsAre items.toList ns) (hj : IntsAre items2.toList ms) :
    Meets (Builtin.«tuple.__lt__» ⟨[.ref l, .ref b], []⟩)
      (fun _ R s => s.heap.get? l = some { cls := .type "tuple", dict := dd, data := .seq items n, slots := sl } ∧ s.heap.get? b = some { cls := .type "tuple", dict := dd2, data := .seq items2 n2, slots := sl2 } ∧
        R (.ok (.ret (.bool (lexLt ns ms)))) s) :=
  .of_wp fun prog w A R s h => by
    obtain ⟨hp, g, d, tk, os⟩ := s; obtain ⟨hl, hb, h⟩ := h
    have f2 := AutoSeq1.sub_tuple_tuple
    have z1 : items.size = ns.length := by rw [← hi.length]; simp
    have z2 : items2.size = ms.length := by rw [← hj.length]; simp
    wp_walk using wpAny_loadPart' hl, wpAny_loadPart' hb, wpAny_forIn_list _ (fun rest b s' => b.1 = none ∧ s' = ⟨hp, g, d, tk, os⟩ ∧ ∃ (vs ws : List Value) (ns' ms' : List Int), rest = vs.zip ws ∧
      IntsAre vs ns' ∧ IntsAre ws ms' ∧ ns'.length + items2.size = ms'.length + items.size ∧ R (.ok (.ret (.bool (lexLt ns' ms')))) ⟨hp, g, d, tk, os⟩) _
    case turn =>
      rintro ⟨y, x⟩ rest b s' ⟨hb', rfl, vs, ws, ns', ms', hz, hvi, hwi, hlen, hR⟩
      cases hvi with
      | nil => rw [List.zip_nil_left] at hz; cases hz
      | cons a t hvi' =>
        cases hwi with
        | nil => rw [List.zip_nil_right] at hz; cases hz
        | cons c u hwi' =>
          rw [List.zip_cons_cons] at hz
          injection hz with hyx hrest
          injection hyx with hy hx
          subst hy hx
          rw [lexLt_cons] at hR
          simp only [List.length_cons] at hlen
          obtain ⟨e, he, hiff⟩ := eqAt_int A.in1 ⟨hp, g, d, tk, os⟩ a t c u
          refine wpAny_bind (he prog w _ _ ?_)
          cases e with
          | true =>
            rw [if_pos (hiff.mp rfl)] at hR
            wp_walk
            exact ⟨rfl, rfl, _, _, _, _, hrest, hvi', hwi', by omega, hR⟩
          | false =>
            rw [if_neg (fun q => absurd (hiff.mpr q) Bool.false_ne_true)] at hR
            have hri := rcLt_int A.in1 ⟨hp, g, d, tk, os⟩ a t c u prog w
            wp_walk using hri
            exact ⟨_, rfl, by simpa using hR⟩
    case fin =>
      rintro ⟨b1, b2⟩ s' ⟨hb', rfl, vs, ws, ns', ms', hz, hvi, hwi, hlen, hR⟩
      simp only at hb'
      subst hb'
      have hv : lexLt ns' ms' = decide (items.size < items2.size) := by
        cases hvi with
        | nil =>
          cases hwi with
          | nil =>
            simp only [List.length_nil] at hlen
            rw [lexLt_nil_nil]
            exact (decide_eq_false (by omega)).symm
          | cons c u hw =>
            simp only [List.length_nil, List.length_cons] at hlen
            rw [lexLt_nil_cons]
            exact (decide_eq_true (by omega)).symm
        | cons a t hv =>
          cases hwi with
          | nil =>
            simp only [List.length_nil, List.length_cons] at hlen
            rw [lexLt_cons_nil]
            exact (decide_eq_false (by omega)).symm
          | cons c u hw =>
            rw [List.zip_cons_cons] at hz
            cases hz
      rw [hv] at hR
      wp_walk
      exact ⟨_, rfl, by simpa [Builtin.Tuple.tupleCompareSizes] using hR⟩
    case h =>
      exact ⟨rfl, rfl, items.toList, items2.toList, ns, ms, rfl, hi, hj, by omega, h⟩
end
section
variable {prog : Program} {w : World} {A : Around} {E : Value → Shared → Prop} {s : Shared}
theorem lt_tupInts {l b : Addr} {items items2 : Array Value} {ns ms : List Int} {Q : Value → Shared → Prop} (hl : IsTup s.heap l items) (hb : IsTup s.heap b items2) (hi : IntsAre items.toList ns) (hj : IntsAre items2.toList ms)
    (hu : A.units < cLine) (h : Q (.bool (lexLt ns ms)) s) : wpAny (model prog w) A (compareOp .Lt (.ref l) (.ref b)) Q E s := by
  obtain ⟨⟨cls, dd, data, sl⟩, ho, hc, n, hd⟩ := id hl
  obtain ⟨⟨cls2, dd2, data2, sl2⟩, ho2, hc2, n2, hd2⟩ := id hb
  simp only at hc hd hc2 hd2
  subst hc hd hc2 hd2
  exact richCompare_meets_room (op := .Lt) ⟨_, ho, rfl⟩ ⟨_, ho2, rfl⟩ PySem.F.slot_tuple_lt PySem.F.entry_tuple_lt (PySem.F.args_tuple_lt_2 _ _) (tuple_lt_ints l b items items2 n n2 dd dd2 sl sl2 ns ms hi hj)
    ⟨ho, ho2, show Value.bool (lexLt ns ms) ≠ Value.notImplemented ∧ Q (.bool (lexLt ns ms)) s from ⟨(fun x => nomatch x), h⟩⟩ hu
def sIx (n d : Nat) : Option Int → Nat
  | none => d
  | some v => if v < 0 then (v + (n : Int)).toNat else min v.toNat n
theorem sIx_le (n d : Nat) (hd : d ≤ n) (o : Option Int) : sIx n d o ≤ n := by
  cases o with
  | none => exact hd
  | some v =>
    show (if v < 0 then (v + (n : Int)).toNat else min v.toNat n) ≤ n
    by_cases hv : v < 0
    · rw [if_pos hv]; omega
    · rw [if_neg hv]; exact Nat.min_le_right _ _
theorem clip_eq (v : Int) (n d : Nat) : (if v < 0 then max (v + (n : Int)) 0 else min v (n : Int)) = ((sIx n d (some v) : Nat) : Int) := by
  show (if v < 0 then max (v + (n : Int)) 0 else min v (n : Int)) = (((if v < 0 then (v + (n : Int)).toNat else min v.toNat n) : Nat) : Int)
  by_cases hv : v < 0
  · simp only [if_pos hv]; omega
  · simp only [if_neg hv]; omega
theorem adjust_gen (lo hi : Option Int) (n : Nat) : Builtin.Slice.sliceAdjust lo hi 1 (n : Int) = (((sIx n 0 lo : Nat) : Int), ((sIx n n hi : Nat) : Int)) := by
  have h1 : ¬ ((1 : Int) < 0) := by omega
  unfold Builtin.Slice.sliceAdjust
  simp only [h1, if_false]
  refine Prod.ext ?_ ?_
  · cases lo with
    | none => rfl
    | some v => exact clip_eq v n 0
  · cases hi with
    | none => rfl
    | some v => exact clip_eq v n n
theorem places_gen (i j : Nat) : Builtin.Slice.slicePlaces (i : Int) (j : Int) 1 = j - i := by
  unfold Builtin.Slice.slicePlaces
  have h1 : (1 : Int) > 0 := by omega
  simp only [h1, if_true, Int.ediv_one]
  split <;> omega
theorem slicePart_ {v : Value} {o : Option Int} {Q : Option Int → Shared → Prop} (p : IsPart v o) (h : Q o s) : wpAny (model prog w) A (Builtin.Slice.slicePartIndex v) Q E s := by
  cases p with
  | none => exact slicePart_none h
  | int i t => exact slicePart_int h
theorem sliceApplied_gen {sl : Addr} {vl vu : Value} {lo hi : Option Int} {n : Nat} {Q : Int × Int × Nat → Shared → Prop} (hs : s.heap.IsSliceOf sl vl vu .none) (pl : IsPart vl lo) (pu : IsPart vu hi)
    (h : Q (((sIx n 0 lo : Nat) : Int), 1, sIx n n hi - sIx n 0 lo) s) : wpAny (model prog w) A (Builtin.Slice.sliceApplied (.ref sl) (pure (n : Int))) Q E s := by
  obtain ⟨os, hos, hcs, hds⟩ := id hs
  unfold Builtin.Slice.sliceApplied Builtin.Slice.sliceFields
  refine wpAny_bind (wpAny_bind (wpAny_field hos hds (x := vl) rfl (wpAny_bind (wpAny_field hos hds (x := vu) rfl (wpAny_bind (wpAny_field hos hds (x := .none) rfl (wpAny_pure ?_)))))))
  refine wpAny_bind (slicePart_none ?_)
  show wpAny _ _ (if ((1 : Int) == 0) = true then _ else _) _ _ s
  rw [if_neg (by decide)]
  refine wpAny_bind (slicePart_ pl (wpAny_bind (slicePart_ pu (wpAny_bind (wpAny_pure ?_)))))
  show wpAny _ _ (match Builtin.Slice.sliceAdjust lo hi 1 (n : Int) with | (lo, hi) => pure (lo, (1 : Int), Builtin.Slice.slicePlaces lo hi 1)) _ _ s
  rw [adjust_gen lo hi n]
  show wpAny _ _ (pure (((sIx n 0 lo : Nat) : Int), (1 : Int), Builtin.Slice.slicePlaces ((sIx n 0 lo : Nat) : Int) ((sIx n n hi : Nat) : Int) 1)) _ _ s
  rw [places_gen]
  exact wpAny_pure h
theorem pick_gen (xs : Array Value) (i k : Nat) : ((List.range k).filterMap fun (m : Nat) => xs[((i : Int) + (m : Int) * 1).toNat]?).toArray = ((xs.toList.drop i).take k).toArray := by
  have e : (fun (m : Nat) => xs[((i : Int) + (m : Int) * 1).toNat]?) = fun m => xs[i + m]? := by
    funext m
    have : ((i : Int) + (m : Int) * 1).toNat = i + m := by omega
    rw [this]
  rw [e]
  have := pick_run xs i k
  rw [List.filterMap_map] at this
  have e2 : ((fun x => xs[x]?) ∘ fun x => i + x) = fun m => xs[i + m]? := rfl
  rw [e2] at this
  rw [this]
theorem getItem_tuple_cut {t sl : Addr} {items : Array Value} {vl vu : Value} {lo hi : Option Int} {Q : Value → Shared → Prop} (ht : IsTup s.heap t items) (hs : s.heap.IsSliceOf sl vl vu .none) (pl : IsPart vl lo) (pu : IsPart vu hi)
    (hw : ¬ (sIx items.size 0 lo = 0 ∧ sIx items.size items.size hi = items.size))
    (h : Q (.ref s.heap.objs.size) { s with heap := s.heap.push { cls := .type "tuple", data := .seq ((items.toList.drop (sIx items.size 0 lo)).take (sIx items.size items.size hi - sIx items.size 0 lo)).toArray } })
    (hsz : items.size ≤ sizeLine) : wpAny (model prog w) A (getItem (.ref t) (.ref sl)) Q E s := by
  have htake : sizeOk (.seq ((items.toList.drop (sIx items.size 0 lo)).take (sIx items.size items.size hi - sIx items.size 0 lo)).toArray) := by
    show ((items.toList.drop (sIx items.size 0 lo)).take (sIx items.size items.size hi - sIx items.size 0 lo)).toArray.size ≤ sizeLine
    rw [List.size_toArray, List.length_take, List.length_drop, Array.length_toList]
    omega
  have hj : sIx items.size items.size hi ≤ items.size := sIx_le _ _ (Nat.le_refl _) hi
  obtain ⟨os, hos, hcs, hds⟩ := id hs
  have hTs : s.TypeIs (.ref sl) "slice" := ⟨os, hos, hcs⟩
  unfold getItem
  try with_reducible refine wpAny_holding ?_
  first | refine wpAny_bind (wpAny_pure ?_) | skip
  refine wpAny_bind (wpAny_sequenceKey ht.typeIs (by decide) ?_)
  refine wpAny_bind (wpAny_callSpecial?_slot (name := Str.ofString "__getitem__") ht.typeIs PyProof.Rows.slot_tuple_getitem
    (wpAny_call_entry PyProof.Rows.slot_tuple_getitem ht.typeIs entry_tuple_getitem ?_ (args_tuple_getitem _ _)))
  show wpAny _ _ (Builtin.Tuple.tupleItemsOf (.ref t) >>= _) _ _ s
  refine wpAny_bind (tupleItemsOf_ ht ?_)
  refine wpAny_bind (wpAny_typeOf hTs ?_)
  rw [if_pos (by decide)]
  refine wpAny_bind (sliceApplied_gen hs pl pu ?_)
  have hno : ¬ ((((sIx items.size 0 lo : Nat) : Int) == 0 && (1 : Int) == 1 && (sIx items.size items.size hi - sIx items.size 0 lo) == items.size) = true) := by
    intro q
    rw [Bool.and_eq_true, Bool.and_eq_true] at q
    have q1 : ((sIx items.size 0 lo : Nat) : Int) = 0 := eq_of_beq q.1.1
    have q2 : sIx items.size items.size hi - sIx items.size 0 lo = items.size := eq_of_beq q.2
    exact hw ⟨by omega, by omega⟩
  show wpAny _ _ (if (((sIx items.size 0 lo : Nat) : Int) == 0 && (1 : Int) == 1 && (sIx items.size items.size hi - sIx items.size 0 lo) == items.size) = true then _ else _) _ _ s
  rw [if_neg hno, pick_gen]
  first
    | exact wpAny_bind (m := Builtin.Tuple.tupleExact _) (wpAny_newObj_type (wpAny_pure ⟨_, rfl, wpAny_pure h⟩) htake)
    | exact wpAny_bind (m := Builtin.Tuple.tupleExact _) (wpAny_newObj_type (wpAny_bind (wpAny_pure (wpAny_pure ⟨_, rfl, wpAny_pure h⟩))) htake)
    | exact wpAny_bind (wpAny_bind (m := Builtin.Tuple.tupleExact _) (wpAny_newObj_type (wpAny_pure (wpAny_pure ⟨_, rfl, wpAny_pure h⟩)) htake))
    | exact wpAny_bind (wpAny_bind (m := Builtin.Tuple.tupleExact _) (wpAny_newObj_type (wpAny_pure ⟨_, rfl, wpAny_pure h⟩) htake))
end
end HT
namespace L2
open PySem PySem.Spec PyProof.Rows
abbrev TO := St → Hp → (Option Int → Hp → Prop) → Prop
def PO (X : Cx) (e : Option Expr) (t : TO) : Prop :=
  ∀ (pins : List (Addr × Obj)) (s : Shared) (σ : St) (H : Hp) (Q : Option Int → Hp → Prop), Inv X pins σ H s → t σ H Q →
    wpAny (model X.prog X.w) X.A (evalPart e X.env) (fun u s' => ∃ o H', Inv X pins σ H' s' ∧ IsPart u o ∧ Q o H') X.xe s
def tNoPart : TO := fun _ H Q => Q none H
def tPart (t : TE) : TO := fun σ H Q => t σ H fun x H1 => ∃ i, x = .int i ∧ Q (some i) H1
theorem intsAre_of {ns : List Int} : ∀ {us : List Value}, Vals (ns.map V.int) us → IntsAre us ns := by
  induction ns with
  | nil => intro us r; rw [List.map_nil] at r; cases r; exact .nil
  | cons n ns ih =>
    intro us r
    rw [List.map_cons] at r
    cases r with
    | cons r1 r2 =>
      obtain ⟨t, e⟩ := r1
      subst e
      exact .cons n t (ih r2)
section
variable {X : Cx} {e : Expr} {te : TE} {lo hi : Option Expr} {tl th : TO} {pos p2 : Pos}
theorem po_none : PO X none tNoPart := by
  intro pins s σ H Q I h
  rw [evalPart_none]
  exact wpAny_pure ⟨none, H, I, .none, h⟩
theorem po_some (h : PE X e te) : PO X (some e) (tPart te) := by
  intro pins s σ H Q I hw
  rw [evalPart_some]
  refine thn (h pins s σ H _ I hw) fun u s1 ⟨x, H1, I1, r1, q1⟩ => ?_
  obtain ⟨i, rfl, q⟩ := q1
  obtain ⟨t, rfl⟩ := r1
  exact ⟨some i, H1, I1, .int i t, q⟩
def SlR (X : Cx) (r : V → Option Int → Option Int → Hp → VK → Prop) : Prop :=
  ∀ (pins : List (Addr × Obj)) (s : Shared) (σ : St) (H : Hp) (x : V) (v vl vu : Value) (lo hi : Option Int) (sl : Addr) (Q : VK), Inv X pins σ H s → RelV x v → s.heap.IsSliceOf sl vl vu .none → IsPart vl lo → IsPart vu hi → r x lo hi H Q →
    ∃ T id, typeLookup (.type T) "__getitem__" = pure (some (.builtin id)) ∧ s.TypeIs v T ∧ wpAny (model X.prog X.w) X.A (getItem v (.ref sl)) (EP X pins σ Q) X.xe s
def tSl (r : V → Option Int → Option Int → Hp → VK → Prop) (te : TE) (tl th : TO) : TE := fun σ H Q => te σ H fun x H1 => tl σ H1 fun l H2 => th σ H2 fun u H3 => r x l u H3 Q
theorem pe_slice {r : V → Option Int → Option Int → Hp → VK → Prop} (hr : SlR X r) (he : PE X e te) (hl : PO X lo tl) (hu : PO X hi th) : PE X (.Subscript e (.Slice lo hi none p2) pos) (tSl r te tl th) := by
  intro pins s σ H Q I h
  refine Subscript_ (thn (he pins s σ H _ I h) fun v s1 ⟨x, H1, I1, r1, q1⟩ => ?_)
  refine wpAny_Slice (thn (hl pins s1 σ H1 _ I1 q1) fun vl s2 ⟨l, H2, I2, pl, q2⟩ => thn (hu pins s2 σ H2 _ I2 q2) fun vu s3 ⟨u, H3, I3, pu, q3⟩ => ?_)
  rw [evalPart_none]
  refine wpAny_pure ?_
  have I4 : Inv X pins σ H3 { s3 with heap := s3.heap.push { cls := .type "slice", data := .fields #[vl, vu, .none] } } := I3.kept (t' := s3.toks) fun b ob q => Heap.get?_push_of_some _ q
  obtain ⟨T, id, hT, ht, hg⟩ := hr pins { s3 with heap := s3.heap.push { cls := .type "slice", data := .fields #[vl, vu, .none] } } σ H3 x v vl vu l u s3.heap.objs.size Q I4 r1 (Heap.IsSliceOf.new ..) pl pu q3
  show wpAny (model X.prog X.w) X.A (subscriptTail e (.Slice lo hi none p2) v (.ref s3.heap.objs.size)) (EP X pins σ Q) X.xe { s3 with heap := s3.heap.push { cls := .type "slice", data := .fields #[vl, vu, .none] } }
  exact tail_any (ops := [.ref s3.heap.objs.size, v]) ht hT hg (by with_unfolding_all rfl)
def cutV (xs : List V) (lo hi : Option Int) : List V := (xs.drop (HT.sIx xs.length 0 lo)).take (HT.sIx xs.length xs.length hi - HT.sIx xs.length 0 lo)
theorem cutV_length (xs : List V) (lo hi : Option Int) : (cutV xs lo hi).length ≤ xs.length := by
  unfold cutV
  rw [List.length_take, List.length_drop]
  omega
def rSlT (K : PySem.W.Frag) : V → Option Int → Option Int → Hp → VK → Prop := fun x lo hi H Q => ∃ a xs, x = .ref a ∧ SqT K H a xs ∧
  ¬ (HT.sIx xs.length 0 lo = 0 ∧ HT.sIx xs.length xs.length hi = xs.length) ∧ ∀ p, H p = none → Q (.ref p) (upd H p (.tup (cutV xs lo hi)))
theorem sl_tup : SlR X (rSlT X.K) := by
  intro pins s σ H x v vl vu lo hi sl Q I rx hs pl pu h
  obtain ⟨a, xs, rfl, hx, hw, q⟩ := h
  cases rx
  obtain ⟨its, r, ht, hz⟩ := I.tuple hx
  have hlen : its.toArray.size = xs.length := by rw [List.size_toArray]; exact r.length.symm
  refine ⟨"tuple", _, PyProof.Rows.slot_tuple_getitem.lookup, ht.typeIs, ?_⟩
  refine HT.getItem_tuple_cut ht hs pl pu (by rw [hlen]; exact hw) ?_ (by rw [hlen]; exact hz)
  rw [hlen]
  refine ⟨.ref s.heap.objs.size, _, I.laid (t' := s.toks) (o := .tup (cutV xs lo hi)) (fun b ob q => Heap.get?_push_of_some _ q) (Nat.le_refl _) ?_, rfl, q _ (I.hok.fresh (Nat.le_refl _))⟩
  exact ⟨Nat.le_trans (cutV_length xs lo hi) hz, _, (r.drop (HT.sIx xs.length 0 lo)).take (HT.sIx xs.length xs.length hi - HT.sIx xs.length 0 lo), IsTup.new _ _⟩
end
end L2
namespace L2
open PySem PySem.Spec PyProof.Rows
def ixN (n : Nat) (i : Int) : Option Nat := if 0 ≤ i then (if i < n then some i.toNat else none) else if -(n : Int) ≤ i then some (i + n).toNat else none
def atI {α : Type} (xs : List α) (i : Int) : Option α := (ixN xs.length i).bind fun j => xs[j]?
theorem ixN_seq {n : Nat} {i : Int} {j : Nat} (h : ixN n i = some j) : seqIndex? i n = some j ∧ j < n ∧ -(n : Int) ≤ i ∧ i < n := by
  unfold ixN at h
  by_cases h0 : 0 ≤ i
  · rw [if_pos h0] at h
    by_cases h1 : i < n
    · rw [if_pos h1] at h
      have e : i.toNat = j := Option.some.inj h
      exact ⟨by rw [seqIndex_of h0 h1, e], by omega, by omega, h1⟩
    · rw [if_neg h1] at h; cases h
  · rw [if_neg h0] at h
    by_cases h1 : -(n : Int) ≤ i
    · rw [if_pos h1] at h
      have e : (i + n).toNat = j := Option.some.inj h
      exact ⟨by rw [seqIndex_neg (by omega) h1, e], by omega, h1, by omega⟩
    · rw [if_neg h1] at h; cases h
theorem atI_get {α : Type} {xs : List α} {i : Int} {v : α} (h : atI xs i = some v) : ∃ j, seqIndex? i xs.length = some j ∧ xs[j]? = some v ∧ j < xs.length ∧ -(xs.length : Int) ≤ i ∧ i < xs.length := by
  unfold atI at h
  cases e : ixN xs.length i with
  | none => rw [e] at h; cases h
  | some j =>
    rw [e] at h
    obtain ⟨h1, h2, h3, h4⟩ := ixN_seq e
    exact ⟨j, h1, h, h2, h3, h4⟩
theorem atI_nat {α : Type} {xs : List α} {j : Nat} {v : α} (h : xs[j]? = some v) : atI xs (j : Int) = some v := by
  have hj : j < xs.length := (List.getElem?_eq_some_iff.mp h).1
  have e : ixN xs.length (j : Int) = some j := by
    unfold ixN
    rw [if_pos (by omega), if_pos (by omega)]; simp
  unfold atI; rw [e]; exact h
def PlainIx (b : Expr) : Prop := ∀ o i, subscripted b false o i = operate [o, i] (getItem o i)
def IxR (X : Cx) (r : R2) : Prop :=
  ∀ (value slice : Expr) (pins : List (Addr × Obj)) (s : Shared) (σ : St) (H : Hp) (x y : V) (v u : Value) (Q : VK), Inv X pins σ H s → RelV x v → RelV y u → r x y H Q →
    subscripted slice false v u = operate [v, u] (getItem v u) → wpAny (model X.prog X.w) X.A (subscriptTail value slice v u) (EP X pins σ Q) X.xe s
def MtR (X : Cx) (id : String) (r : V → List V → Hp → VK → Prop) : Prop :=
  ∀ (pins : List (Addr × Obj)) (s : Shared) (σ : St) (H : Hp) (x : V) (xs : List V) (v : Value) (us : List Value) (Q : VK), Inv X pins σ H s → RelV x v → Vals xs us → r x xs H Q →
    wpAny (model X.prog X.w) X.A (call (.builtin id) (v :: us)) (EP X pins σ Q) X.xe s
section
variable {X : Cx} {a b : Expr} {ta tb : TE} {pos : Pos}
theorem pe_ix {r : R2} (hr : IxR X r) (ha : PE X a ta) (hb : PE X b tb) (hs : PlainIx b) : PE X (.Subscript a b pos) (tOp r ta tb) := by
  intro pins s σ H Q I h
  exact Subscript_ (binT ha hb I h fun v u s2 x y H2 I2 rx ry q => hr a b pins s2 σ H2 x y v u Q I2 rx ry q (hs _ _))
def rIxL (K : PySem.W.Frag) : R2 := fun x y H Q => ∃ p xs i v, x = .ref p ∧ y = .int i ∧ SqL K H p xs ∧ atI xs i = some v ∧ Q v H
def rIxT (K : PySem.W.Frag) : R2 := fun x y H Q => ∃ p xs i v, x = .ref p ∧ y = .int i ∧ SqT K H p xs ∧ atI xs i = some v ∧ Q v H
theorem ix_list : IxR X (rIxL X.K) := by
  intro value slice pins s σ H x y v u Q I rx ry h hs
  obtain ⟨p, xs, i, z, rfl, rfl, hq, he, q⟩ := h
  cases rx
  obtain ⟨t, rfl⟩ := ry
  obtain ⟨its, r, pl, hz⟩ := I.list hq
  obtain ⟨j, h1, h2, h3, h4, h5⟩ := atI_get he
  obtain ⟨w, ew, rw'⟩ := r.get h2
  have hl := r.length
  have hn := line63
  have fin : EP X pins σ Q w s := ⟨z, H, I, rw', q⟩
  by_cases h0 : 0 ≤ i
  · have hj : i.toNat = j := by
      rw [seqIndex_of h0 h5] at h1
      exact Option.some.inj h1
    exact item_listR pl.isList h0 (by omega) (by rw [hj]; simpa using ew) fin hs
  · have hj : (i + (its.toArray.size : Int)).toNat = j := by
      rw [seqIndex_neg (by omega) h4] at h1
      rw [List.size_toArray, ← hl]
      exact Option.some.inj h1
    exact subscriptTail_builtinR (x := w) pl.isList.typeIs slot_list_getitem.lookup
      (wpAny_getItem_list_neg (Q := fun r s' => r = w ∧ EP X pins σ Q r s') pl.isList (by omega) (by rw [List.size_toArray] <;> omega) (by omega) (by rw [hj]; simpa using ew) ⟨rfl, fin⟩) hs
theorem ix_tup : IxR X (rIxT X.K) := by
  intro value slice pins s σ H x y v u Q I rx ry h hs
  obtain ⟨p, xs, i, z, rfl, rfl, hq, he, q⟩ := h
  cases rx
  obtain ⟨t, rfl⟩ := ry
  obtain ⟨its, r, pl, hz⟩ := I.tuple hq
  obtain ⟨j, h1, h2, h3, h4, h5⟩ := atI_get he
  obtain ⟨w, ew, rw'⟩ := r.get h2
  have hl := r.length
  have hn := line63
  have fin : EP X pins σ Q w s := ⟨z, H, I, rw', q⟩
  exact subscriptTail_builtinR (x := w) pl.typeIs slot_tuple_getitem.lookup
    (getItem_tuple (j := j) (Q := fun r s' => r = w ∧ EP X pins σ Q r s') pl (by omega) (by omega) (by rw [List.size_toArray, ← hl]; exact h1) (by simpa using ew) ⟨rfl, fin⟩) hs
def flatV : V → Bool
  | .non => true
  | .bl _ => true
  | .int _ => true
  | .str _ => true
  | _ => false
def eqV : V → V → Bool
  | .non, .non => true
  | .bl a, .bl b => a == b
  | .bl a, .int b => (if a then 1 else 0) == b
  | .int a, .bl b => a == (if b then 1 else 0)
  | .int a, .int b => a == b
  | .str a, .str b => a == b
  | _, _ => false
theorem eqAt_V {A : Around} {s : Shared} {y x : V} {u v : Value} (ry : RelV y u) (rx : RelV x v) (fy : flatV y = true) (fx : flatV x = true) : SeqAt.EqAt A s u v (eqV y x) := by
  cases y with
  | non =>
    cases ry
    cases x with
    | non => cases rx; exact SeqAt.EqAt.same _
    | bl b => cases rx; exact SeqAt.EqAt.none_bool b
    | int b => obtain ⟨t, rfl⟩ := rx; exact SeqAt.EqAt.none_int b t
    | str b => obtain ⟨t, rfl⟩ := rx; exact SeqAt.EqAt.none_str b t
    | _ => exact absurd (show false = true from fx) Bool.false_ne_true
  | bl a =>
    cases ry
    cases x with
    | non => cases rx; exact SeqAt.EqAt.bool_none a
    | bl b => cases rx; exact SeqAt.EqAt.bool_bool a b
    | int b => obtain ⟨t, rfl⟩ := rx; exact SeqAt.EqAt.bool_int a b t
    | str b => obtain ⟨t, rfl⟩ := rx; exact SeqAt.EqAt.bool_str a b t
    | _ => exact absurd (show false = true from fx) Bool.false_ne_true
  | int a =>
    obtain ⟨t', rfl⟩ := ry
    cases x with
    | non => cases rx; exact SeqAt.EqAt.int_none a t'
    | bl b => cases rx; exact SeqAt.EqAt.int_bool a t' b
    | int b => obtain ⟨t, rfl⟩ := rx; exact SeqAt.EqAt.int_int a t' b t
    | str b => obtain ⟨t, rfl⟩ := rx; exact SeqAt.EqAt.int_str a t' b t
    | _ => exact absurd (show false = true from fx) Bool.false_ne_true
  | str a =>
    obtain ⟨t', rfl⟩ := ry
    cases x with
    | non => cases rx; exact SeqAt.EqAt.str_none a t'
    | bl b => cases rx; exact SeqAt.EqAt.str_bool a t' b
    | int b => obtain ⟨t, rfl⟩ := rx; exact SeqAt.EqAt.str_int a t' b t
    | str b => obtain ⟨t, rfl⟩ := rx; exact SeqAt.EqAt.str_str a t' b t
    | _ => exact absurd (show false = true from fx) Bool.false_ne_true
  | _ => exact absurd (show false = true from fy) Bool.false_ne_true
def eqU (x : V) (u : Value) : Bool := match u with
  | .none => eqV .non x
  | .bool b => eqV (.bl b) x
  | .int i _ => eqV (.int i) x
  | .str z _ => eqV (.str z) x
  | _ => false
theorem eqU_of {x y : V} {u : Value} (r : RelV y u) (f : flatV y = true) : eqU x u = eqV y x := by
  cases y with
  | non => cases r; rfl
  | bl b => cases r; rfl
  | int i => obtain ⟨t, rfl⟩ := r; rfl
  | str z => obtain ⟨t, rfl⟩ := r; rfl
  | _ => exact absurd (show false = true from f) Bool.false_ne_true
theorem any_eqU {x : V} : ∀ {xs : List V} {us : List Value}, Vals xs us → xs.all flatV = true → us.any (eqU x) = xs.any fun y => eqV y x
  | _, _, .nil, _ => rfl
  | y :: xs, u :: us, .cons r t, f => by
    rw [List.all_cons, Bool.and_eq_true] at f
    rw [List.any_cons, List.any_cons, eqU_of r f.1, any_eqU t f.2]
theorem mem_eqAt {A : Around} {s : Shared} {x : V} {v : Value} (rx : RelV x v) (fx : flatV x = true) : ∀ {xs : List V} {us : List Value}, Vals xs us → xs.all flatV = true → ∀ u ∈ us, SeqAt.EqAt A s u v (eqU x u)
  | _, _, .nil, _ => fun u hu => by cases hu
  | y :: xs, u :: us, .cons r t, f => fun u' hu => by
    rw [List.all_cons, Bool.and_eq_true] at f
    rcases List.mem_cons.mp hu with rfl | hu
    · rw [eqU_of r f.1]; exact eqAt_V r rx f.1 fx
    · exact mem_eqAt rx fx t f.2 u' hu
def inV (x : V) (xs : List V) : Bool := xs.any fun y => eqV y x
def rIn (K : PySem.W.Frag) (neg : Bool) : R2 := fun x y H Q => ∃ p xs, y = .ref p ∧ (SqL K H p xs ∨ SqT K H p xs) ∧ flatV x = true ∧ xs.all flatV = true ∧ Q (.bl (if neg then !inV x xs else inV x xs)) H
theorem op_in_seq : OpR X (compareOp .In) (rIn X.K false) := by
  intro pins s σ H x y v u Q I rx ry h
  obtain ⟨p, xs, rfl, hq, fx, fs, q⟩ := h
  cases ry
  rcases hq with hq | hq
  · obtain ⟨its, r, pl, hz⟩ := I.list hq
    refine SeqAt.in_listAt (eqU x) pl.isList (fun w hw => mem_eqAt rx fx r fs w (by simpa using hw)) ⟨.bl _, H, I, rfl, ?_⟩
    rw [show its.toArray.any (eqU x) = its.any (eqU x) by simp, any_eqU r fs]
    exact q
  · obtain ⟨its, r, pl, hz⟩ := I.tuple hq
    refine SeqAt.in_tupleAt (eqU x) pl (fun w hw => mem_eqAt rx fx r fs w (by simpa using hw)) ⟨.bl _, H, I, rfl, ?_⟩
    rw [show its.toArray.any (eqU x) = its.any (eqU x) by simp, any_eqU r fs]
    exact q
theorem call_len_seq : CallR X (.builtin "len") (fun xs H Q => ∃ p ys, xs = [.ref p] ∧ (SqL X.K H p ys ∨ SqT X.K H p ys) ∧ Q (.int ys.length) H) := by
  intro pins s σ H xs us Q I r h
  obtain ⟨p, ys, rfl, hq, q⟩ := h
  obtain ⟨u, rfl, rx⟩ := vals1 r
  cases rx
  have hn := line63
  rcases hq with hq | hq
  · obtain ⟨its, r', pl, hz⟩ := I.list hq
    have hlen := r'.length
    exact Calls.call_len_list pl.isList (by simp only [List.size_toArray] <;> omega) ⟨.int ys.length, H, I.tok _, ⟨s.toks + 1, by rw [List.size_toArray, hlen]⟩, q⟩
  · obtain ⟨its, r', pl, hz⟩ := I.tuple hq
    have hlen := r'.length
    exact len_tuple pl (by simp only [List.size_toArray] <;> omega) ⟨.int ys.length, H, I.tok _, ⟨s.toks + 1, by rw [List.size_toArray, hlen]⟩, q⟩
theorem call_list_of : CallR X (.type "list") (fun xs H Q => ∃ p ys, xs = [.ref p] ∧ (SqL X.K H p ys ∨ SqT X.K H p ys) ∧ ∀ l, H l = none → Q (.ref l) (upd H l (.lst ys))) := by
  intro pins s σ H xs us Q I r h
  obtain ⟨p, ys, rfl, hq, q⟩ := h
  obtain ⟨u, rfl, rx⟩ := vals1 r
  cases rx
  have fin : ∀ (its : List Value), Vals ys its → ys.length ≤ sizeLine → ∀ (h' : Heap) (c' : Nat), (∀ b o', s.heap.get? b = some o' → h'.get? b = some o') →
      h'.get? s.heap.objs.size = some { cls := .type "list", dict := none, data := .seq its.toArray c', slots := #[] } → EP X pins σ Q (.ref s.heap.objs.size) { s with heap := h' } := fun its r' hz h' c' kp e =>
    ⟨.ref s.heap.objs.size, _, I.laid (t' := s.toks) kp (Nat.le_refl _) (show ObjOk X.prog X.w _ h' _ (.lst ys) from ⟨hz, its, c', r', e⟩), rfl, q _ (I.hok.fresh (Nat.le_refl _))⟩
  rcases hq with hq | hq
  · obtain ⟨its, r', pl, hz⟩ := I.list hq
    have hlen := r'.length
    obtain ⟨o, ho, hc, n, hd⟩ := pl.isList
    exact call_list_seq p (.inl rfl) ho hc hd (fun h' c' kp e => fin its r' hz h' c' kp e) (by simp only [List.size_toArray] <;> omega)
  · obtain ⟨its, r', pl, hz⟩ := I.tuple hq
    have hlen := r'.length
    obtain ⟨o, ho, hc, n, hd⟩ := pl
    exact call_list_seq p (.inr rfl) ho hc hd (fun h' c' kp e => fin its r' hz h' c' kp e) (by simp only [List.size_toArray] <;> omega)
theorem call_tuple_of : CallR X (.type "tuple") (fun xs H Q => ∃ p ys, xs = [.ref p] ∧ ((SqL X.K H p ys ∧ ∀ l, H l = none → Q (.ref l) (upd H l (.tup ys))) ∨ (SqT X.K H p ys ∧ Q (.ref p) H))) := by
  intro pins s σ H xs us Q I r h
  obtain ⟨p, ys, rfl, h⟩ := h
  obtain ⟨u, rfl, rx⟩ := vals1 r
  cases rx
  rcases h with ⟨hq, q⟩ | ⟨hq, q⟩
  · obtain ⟨its, r', pl, hz⟩ := I.list hq
    have hlen := r'.length
    refine call_tuple_list pl.isList (fun h' kp => ?_) (by simp only [List.size_toArray] <;> omega)
    have I1 : Inv X pins σ H { s with heap := h' } := I.kept (t' := s.toks) kp
    have I2 : Inv X pins σ (upd H h'.objs.size (.tup ys)) { s with heap := h'.push { cls := .type "tuple", data := .seq its.toArray } } :=
      I1.laid (t' := s.toks) (fun b o e => Heap.get?_push_of_some _ e) (Nat.le_refl _) (show ObjOk X.prog X.w _ _ _ (.tup ys) from ⟨hz, its, r', IsTup.new _ _⟩)
    exact ⟨.ref h'.objs.size, _, I2, rfl, q _ (I1.hok.fresh (Nat.le_refl _))⟩
  · obtain ⟨its, r', pl, hz⟩ := I.tuple hq
    exact call_tuple_same pl ⟨.ref p, H, I, rfl, q⟩
def tyV (K : PySem.W.Frag) (T : String) (x : V) (H : Hp) : Prop := match x with
  | .str _ => T = "str"
  | .int _ => T = "int"
  | .ref p => (T = "list" ∧ ∃ xs, SqL K H p xs) ∨ (T = "tuple" ∧ ∃ o, K.lookup p = some o ∧ o.cls = .type "tuple" ∧ o.dict = none) ∨
      (T = "dict" ∧ ((∃ kvs, H p = some (.dK kvs)) ∨ ∃ kvs, H p = some (.dT kvs))) ∨ (T = "set" ∧ ∃ S n, H p = some (.set S n))
  | _ => False
theorem tyV_is {pins : List (Addr × Obj)} {σ : St} {H : Hp} {s : Shared} {T : String} {x : V} {v : Value} (I : Inv X pins σ H s) (r : RelV x v) (ty : tyV X.K T x H) :
    s.TypeIs v T ∧ ∀ a, v = .ref a → ∃ ob, s.heap.get? a = some ob ∧ ob.dict = none := by
  cases x with
  | str z =>
    obtain ⟨t, rfl⟩ := r
    cases (show T = "str" from ty)
    exact ⟨typeIs_str s z t, fun _ e => nomatch e⟩
  | int i =>
    obtain ⟨t, rfl⟩ := r
    cases (show T = "int" from ty)
    exact ⟨typeIs_int s i t, fun _ e => nomatch e⟩
  | ref p =>
    cases r
    rcases ty with ⟨rfl, xs, hq⟩ | ⟨rfl, o, hk, hc, hd⟩ | ⟨rfl, hk⟩ | ⟨rfl, S, n, hk⟩
    · obtain ⟨its, _, pl, _⟩ := I.list hq
      refine ⟨pl.isList.typeIs, fun a e => ?_⟩
      cases e
      obtain ⟨o, n, e, c, hd, _⟩ := pl
      exact ⟨o, e, hd⟩
    · refine ⟨⟨o, I.kIn p o hk, hc⟩, fun a e => ?_⟩
      cases e
      exact ⟨o, I.kIn _ o hk, hd⟩
    · have z : ∃ o, s.heap.get? p = some o ∧ o.ExactDict := by
        rcases hk with ⟨kvs, hk⟩ | ⟨kvs, hk⟩
        · obtain ⟨_, _, _, _, o, _, _, e, ex, _⟩ := I.hok p _ hk
          exact ⟨o, e, ex⟩
        · obtain ⟨_, _, _, _, o, _, _, e, ex, _⟩ := I.hok p _ hk
          exact ⟨o, e, ex⟩
      obtain ⟨o, e, ex⟩ := z
      refine ⟨⟨o, e, ex.1⟩, fun a e2 => ?_⟩
      cases e2
      exact ⟨o, e, ex.2.1⟩
    · obtain ⟨o, _, _, _, e, ex, _⟩ := I.hok p _ hk
      refine ⟨⟨o, e, ex.1⟩, fun a e2 => ?_⟩
      cases e2
      exact ⟨o, e, ex.2.1⟩
  | _ => exact False.elim ty
def tBM0 (K : PySem.W.Frag) (T : String) (r : V → List V → Hp → VK → Prop) (to : TE) : TE := fun σ H Q => to σ H fun x H1 => tyV K T x H1 ∧ r x [] H1 Q
def tBM (K : PySem.W.Frag) (T : String) (r : V → List V → Hp → VK → Prop) (to : TE) (t : TA) : TE := fun σ H Q => to σ H fun x H1 => tyV K T x H1 ∧ t σ H1 fun xs H2 => r x xs H2 Q
variable {o e : Expr} {es : List Expr} {to : TE} {t : TA} {name : Str} {apos cpos : Pos} {T id : String} {r : V → List V → Hp → VK → Prop}
theorem pe_bm0 (pa : PlainAttrs T) (slot : Slot T name id) (hty : typeOf (.builtin id) = pure (.type "method_descriptor")) (hm : MtR X id r) (ho : PE X o to)
    (hbase : attributeBase o name X.env (eval o X.env) = eval o X.env := by rfl) (hline : (apos.endLine == cpos.line) = true := by rfl) : PE X (.Call (.Attribute o name apos) [] [] cpos) (tBM0 X.K T r to) := by
  intro pins s σ H Q I h
  refine wpAny_Call_method0_late hbase hline (thn (ho pins s σ H _ I h) fun v s1 ⟨x, H1, I1, r1, ty, q1⟩ => ?_)
  obtain ⟨h1, h2⟩ := tyV_is I1 r1 ty
  exact ⟨T, id, pa, slot, hty, h1, h2, Calls.callWith_builtin rfl (PySem.evalArgs_none (hm pins s1 σ H1 x [] v [] Q I1 r1 .nil q1))⟩
theorem pe_bm (pa : PlainAttrs T) (slot : Slot T name id) (hty : typeOf (.builtin id) = pure (.type "method_descriptor")) (hm : MtR X id r) (ho : PE X o to) (ha : PA X (e :: es) t)
    (hbase : attributeBase o name X.env (eval o X.env) = eval o X.env := by rfl)
    (hfew : ((backTo cpos (starEach (e :: es) X.env)).all (fun x => !x.1) && (backToKw cpos (keywordEach [] X.env)).all (fun x => x.1.isSome)
      && decide ((e :: es).length + ([] : List Keyword).length + (if ([] : List Keyword).isEmpty then 0 else 1) < 30)) = true := by rfl)
    (hline : (apos.endLine == cpos.line) = true := by rfl) (hs : starEach (e :: es) X.env = (false, eval e X.env) :: starEach es X.env := by rfl) (hplain : (backTo cpos (starEach es X.env)).any (·.1) = false := by rfl) :
    PE X (.Call (.Attribute o name apos) (e :: es) [] cpos) (tBM X.K T r to t) := by
  intro pins s σ H Q I h
  refine wpAny_Call_method_late hbase hfew hline rfl (thn (ho pins s σ H _ I h) fun v s1 ⟨x, H1, I1, r1, ty, q1⟩ => ?_)
  obtain ⟨h1, h2⟩ := tyV_is I1 r1 ty
  refine ⟨T, id, pa, slot, hty, h1, h2, ?_⟩
  have hA := ha cpos pins s1 σ H1 _ I1 q1
  rw [hs] at hA ⊢
  refine Calls.callWith_builtin (by show (false || (backTo cpos (starEach es X.env)).any (·.1)) = false; rw [hplain] <;> rfl) (Calls.evalArgs_plain ?_)
  exact thn hA fun us s2 ⟨vs, H2, I2, r2, q2⟩ => hm pins s2 σ H2 x vs v us Q I2 r1 r2 q2
end
end L2
namespace L2
open PySem PySem.Spec PyProof.Rows
def MtM (X : Cx) (id : String) (r : V → List V → Hp → VK → Prop) : Prop :=
  ∀ (pins : List (Addr × Obj)) (s : Shared) (σ : St) (H : Hp) (x : V) (xs : List V) (v : Value) (us : List Value) (Q : VK), Inv X pins σ H s → RelV x v → Vals xs us → r x xs H Q →
    wpAny (model X.prog X.w) X.A (call (.builtin id) (v :: us)) (EP X pins σ Q) X.xe s
theorem Vals.one : ∀ {x : V} {us : List Value}, Vals [x] us → ∃ u, us = [u] ∧ RelV x u
  | _, _, .cons r .nil => ⟨_, rfl, r⟩
section
variable {X : Cx} {pins : List (Addr × Obj)} {σ : St} {H : Hp} {s : Shared} {l b : Addr} {xs ys zs : List V}
theorem Inv.lset {its its' : List Value} {n : Nat} {f : Array Value → Array Value} {t' : Nat} (I : Inv X pins σ H s) (hH : H l = some (.lst xs))
    (e : s.heap.get? l = some { cls := .type "list", data := .seq its.toArray n }) (hf : f its.toArray = its'.toArray) (hv : Vals ys its') (hz : ys.length ≤ sizeLine) :
    Inv X pins σ (upd H l (.lst ys)) { s with heap := s.heap.update l (Obj.mapSeq f), toks := t' } := by
  have q := PySem.IsL.update e f
  rw [hf] at q
  refine I.write (x := l) (e := l) (by rw [hH]; exact trivial) (.inl rfl) (fun b' u hb hu => (Heap.get?_update_other s.heap (Obj.mapSeq f) (Ne.symm hb)).trans hu) ⟨_, q⟩ ?_
  exact ⟨hz, its', _, hv, q⟩
theorem Inv.lstM (I : Inv X pins σ H s) (hH : H l = some (.lst xs)) : xs.length ≤ sizeLine ∧ ∃ (its : List Value) (n : Nat), Vals xs its ∧ xs.length = its.length ∧ s.heap.get? l = some { cls := .type "list", data := .seq its.toArray n } := by
  obtain ⟨z, its, n, r, e⟩ := I.hok l _ hH
  exact ⟨z, its, n, r, r.length, e⟩
theorem notLongL {n : Nat} (h : n ≤ sizeLine) : Builtin.List.listTooLong n = false := by
  unfold Builtin.List.listTooLong
  exact decide_eq_false (by omega)
end
section
variable {X : Cx}
def rAppend : V → List V → Hp → VK → Prop := fun x vs H Q => ∃ l xs y, x = .ref l ∧ vs = [y] ∧ H l = some (.lst xs) ∧ xs.length < sizeLine ∧ Q .non (upd H l (.lst (xs ++ [y])))
theorem mt_append : MtM X "list.append" rAppend := by
  intro pins s σ H x vs v us Q I rx rv h
  obtain ⟨l, xs, y, rfl, rfl, hH, hz, q⟩ := h
  cases rx
  obtain ⟨u, rfl, ru⟩ := rv.one
  obtain ⟨z, its, n, r, hl, e⟩ := I.lstM hH
  refine call_meets F.slot_list_append ⟨_, e, rfl⟩ F.entry_list_append (F.args_list_append_2 _ _) (PySem.list_append l its.toArray n u (by rw [List.size_toArray]; omega)) ⟨e, ?_⟩
  refine ⟨.non, _, I.lset (its' := its ++ [u]) hH e (by simp) (r.append (.cons ru .nil)) ?_, rfl, q⟩
  rw [List.length_append, List.length_singleton]
  omega
end
section
variable {prog : Program} {w : World} {A : Around} {E : Value → Shared → Prop} {s : Shared}
set_option maxRecDepth 100000 in
end
section
variable {X : Cx}
end
end L2
namespace Att
open PySem PySem.W PySem.Calls PyProof.Rows
theorem ints_of_wellAll {P : Params} {h : Heap} : ∀ (ns : List Int) (vs : List Value), WellAll P h vs (ns.map WData.int) → IntsAre vs ns := by
  intro ns
  induction ns with
  | nil =>
    intro vs w
    rw [List.map_nil] at w
    cases w
    exact .nil
  | cons n ns ih =>
    intro vs w
    rw [List.map_cons] at w
    cases w with
    | cons a b =>
      cases a
      exact .cons _ _ (ih _ b)
theorem script_of {l : OpenLaw} {n : Nat} (hn : l.most = some n) {P : Params} {h : Heap} {args : List WData} {vals : List Value}
    (hpre : l.row.toRowW.claim.pre args = true) (hwl : WellAll P h vals args) :
    ∃ a vs ns, vals = [Value.ref a] ∧ args = [WData.list (ns.map WData.int)] ∧ h.get? a = some { cls := .type "list", data := .seq vs.toArray } ∧ IntsAre vs ns ∧ ns.length ≤ n := by
  have hsh : WShape.hasAll [] args [.list .int] = true := (pre_splitW hpre).1
  have hc : l.pre.holds [] { args := args } = true := (pre_splitW hpre).2
  obtain ⟨d, r, rfl, h1, h2⟩ := hasAllW_cons hsh
  obtain rfl := hasAllW_nil h2
  obtain ⟨xs, rfl, h3⟩ := hasW_list h1
  obtain ⟨ns, rfl⟩ := items_int h3
  have hlen : ns.length ≤ n := by
    unfold OpenLaw.pre at hc
    have h4 : (WTm.not (.lt (.lit (.int (n : Int))) (.len (.arg 0)))).holds [] { args := [.list (ns.map .int)] } = true := by
      have h4 := (holds_andW hc).1
      rw [hn] at h4
      exact h4
    have h5 := condW_of h4 (w_not (w_lt w_lit (w_len_list (w_arg rfl))))
    rw [List.length_map] at h5
    refine Nat.le_of_not_lt fun q => ?_
    have q' : (n : Int) < ((ns.length : Nat) : Int) := by omega
    first
      | (rw [decide_eq_true q'] at h5; exact absurd h5 (by decide))
      | (simp at h5; omega)
  cases hwl with
  | cons w1 w2 =>
    cases w2
    cases w1 with
    | list ho hall => exact ⟨_, _, ns, rfl, rfl, ho, ints_of_wellAll ns _ hall, hlen⟩
theorem post_true (l : OpenLaw) (args : List WData) : l.row.toRowW.claim.post args (.bool true) args = true :=
  postW_of (r := l.row.toRowW) (X := (true == true))
    (show WShape.has [] (.bool true) .bool = true by first | rfl | decide | simp [WShape.has, WShape.arms, WShape.armsAll])
    (show (WTm.eq .res (.lit (.bool true))).value [] { args := args, res := some (.bool true), after := args } = some (.bool (true == true)) from w_eq_bool (w_res rfl) w_lit) rfl
theorem attach_call {l : OpenLaw} {n : Nat} {q : Program} {loose : List Str} {XP : (Str → Option Value) → Heap → Prop} {YP : World → Heap → Prop} {d : DefRec}
    (hn : l.most = some n) (hdf : d.params.defaults = [])
    (call : ∀ (w : World) (s₀ s₁ : Shared) (mg mb : Str → Option Value) (fa : Addr) (o : Obj) (pm cd doc : Value) (a : Addr) (vs : List Value) (ns : List Int),
      Ground q loose [] XP w s₀ mg mb s₁.heap → YP w s₁.heap →
      s₁.heap.get? fa = some o → o.data = .func (docDef d.name d.params d.body d.scope pm cd doc) → s₁.heap.CodeRec cd d.name → mg d.name = some (.ref fa) →
      s₁.heap.get? a = some { cls := .type "list", data := .seq vs.toArray } → IntsAre vs ns → ns.length ≤ n → s₁.gens = #[] →
      codeAny (model l.prog w) callerA (.call (.ref fa) ⟨[.ref a], []⟩) (fun r s' => r = .ok (.ret (.bool true)) ∧ OldK s₁.heap s'.heap ∧ s'.os = s₁.os ∧ AllBare s'.gens) s₁) :
    WalkO q loose XP YP l.row.toRowW d [] (fun f vs => PySem.call f vs) := by
  intro w s₀ s₁ mg mb G Y fa o pm cd doc dV kV ho hd hcd hD hmg hg args vals as hpre hlay hrd hwl hlo
  obtain rfl : dV = .none := Dflts.none hD hdf
  obtain rfl : kV = .none := Dflts.noKw hD
  obtain ⟨a, vs, ns, rfl, rfl, hobj, hints, hlen⟩ := script_of hn hpre hwl
  refine enter_call (codeAny_mono (call w s₀ s₁ mg mb fa o pm cd doc a vs ns G Y ho (fd_plain hd) hcd hmg hobj hints hlen hg) fun r s' hq => ?_)
  obtain ⟨rfl, h2, h3, h4⟩ := hq
  exact ⟨.inl ⟨.bool true, .bool true, [], rfl, fun _ => rfl, .bool true, post_true l _, fun _ => ⟨List.Pairwise.nil, fun _ hm => (nomatch hm)⟩⟩, h2, h3, h4⟩
section
variable {prog : Program} {w : World} {A : Around} {E : Value → Shared → Prop} {s : Shared} {K : Frag}
end
end Att
namespace L2
open PySem PySem.Spec PyProof.Rows
theorem vals_ints : ∀ {vs : List Value} {ns : List Int}, IntsAre vs ns → Vals (ns.map V.int) vs
  | _, _, .nil => .nil
  | _, _, .cons n t h => .cons ⟨t, rfl⟩ (vals_ints h)
def Only (H : Hp) : Prop := ∀ b, H b = none ∨ ∃ o xs, H b = some (.frz o (.lst xs))
theorem law_call {P : Program} {w : World} {K : PySem.W.Frag} {mg mb : Str → Option Value} {CX : CXT} {k : Nat} {fa a : Addr} {fd : FuncData} {x : Str} {sp : Sp} {s₁ : Shared} {vs : List Value} {ns : List Int}
    (KX : K.In s₁.heap) (hns : s₁.heap.Ns mainGlobals mg) (hb : s₁.heap.Ns builtinsNs mb) (hbb : ∀ x : Str, x ≠ "__name__" → mb x = bootBuiltins x) (hlim : s₁.heap.NoLimit) (hg : s₁.gens = #[])
    (ha : s₁.heap.get? a = some { cls := .type "list", data := .seq vs.toArray }) (hi : IntsAre vs ns) (hl : ns.length ≤ sizeLine) (hr : Room k callerA)
    (F : ∀ base : Heap, K.In base → base.Ns mainGlobals mg → FnOk P w K mg base CX k fa fd [x] sp) (hbind : ∀ (s : Shared) (u : Value), BindsTo s fd ⟨[u], []⟩ [(x, u)])
    (hsp : ∀ H : Hp, Only H → SqL K H a (ns.map V.int) → sp [.ref a] H (fun v _ => v = .bl true) fun _ _ _ => False)
    (hCX : ∀ H e s', CX [] H s₁ (fun _ _ _ => False) e s' → False) :
    codeAny (model P w) callerA (.call (.ref fa) ⟨[.ref a], []⟩) (fun r s' => r = .ok (.ret (.bool true)) ∧ OldK s₁.heap s'.heap ∧ s'.os = s₁.os ∧ AllBare s'.gens) s₁ := by
  have rv := vals_ints hi
  have lenV := hi.length
  have core : ∀ H : Hp, Only H → SqL K H a (ns.map V.int) → HOk P w H s₁.heap → (∀ b, H b ≠ none → b = a) → (H a ≠ none → K.lookup a = none) →
      codeAny (model P w) callerA (.call (.ref fa) ⟨[.ref a], []⟩) (fun r s' => r = .ok (.ret (.bool true)) ∧ OldK s₁.heap s'.heap ∧ s'.os = s₁.os ∧ AllBare s'.gens) s₁ := by
    intro H hO hS hok hA hK
    have base_of : ∀ {b : Addr} {o : Obj}, s₁.heap.get? b = some o → H b = none → (hidT s₁.heap H).get? b = some o := fun e n => hidT_get e n
    have noA : ∀ {b : Addr} {o : Obj} {es : Array DictEntry} {ep : Nat}, s₁.heap.get? b = some o → o.data = .dict es ep → H b = none := fun {b o es ep} e d => by
      cases q : H b with
      | none => rfl
      | some u =>
        have e' : b = a := hA b (by rw [q]; simp)
        subst e'
        rw [ha] at e; cases e
        have d' : Data.seq vs.toArray _ = Data.dict es ep := d
        cases d'
    have nsK : ∀ {b : Addr} {m : Str → Option Value}, s₁.heap.Ns b m → (hidT s₁.heap H).Ns b m := fun {b m} ⟨o, es, ep, e, d, r⟩ => ⟨o, es, ep, base_of e (noA e d), d, r⟩
    have hKb : K.In (hidT s₁.heap H) := fun b o e => base_of (KX b o e) (by
      cases q : H b with
      | none => rfl
      | some u =>
        have e' : b = a := hA b (by rw [q]; simp)
        subst e'
        rw [hK (by rw [q]; simp)] at e; cases e)
    have hM : Mod K mg (hidT s₁.heap H) := ⟨hKb, nsK hns, ⟨mb, nsK hb, hbb⟩, let ⟨mc, h1, h2⟩ := hlim; ⟨mc, nsK h1, h2⟩⟩
    have e0 : Env0 P w K mg (hidT s₁.heap H) callerA [] s₁ H := ⟨rfl, hM, fun b o e => of_hidT e, Nat.le_of_eq (hidT_size _ _), trivial, fun b hb => absurd (show b ∈ ([] : List Addr) from hb) (by simp), hok, .of_eq hg⟩
    refine codeAny_mono ((F _ hKb (nsK hns)).run callerA [] s₁ H ⟨[.ref a], []⟩ [.ref a] [.ref a] _ _ hr e0 (hbind s₁ (.ref a)) (.cons rfl .nil) (hsp H hO hS)) fun r s' h => ?_
    cases r with
    | error e => exact (hCX H e s' h).elim
    | ok fl =>
      cases fl with
      | next => exact False.elim h
      | brk => exact False.elim h
      | cont => exact False.elim h
      | ret u =>
        obtain ⟨v, H', os, bare, un, hok', r', q⟩ := h
        have q' : v = .bl true := q
        subst q'
        obtain rfl : u = Value.bool true := r'
        refine ⟨rfl, OldK.of_keep fun b o e => ?_, os, bare⟩
        cases q : H b with
        | none => exact un.keep b o e q (by intro z; exact absurd (show b ∈ ([] : List Addr) from z) (by simp)) (by simp)
        | some u =>
          rcases hO b with z | ⟨ob, xs, z⟩
          · rw [q] at z; cases z
          · have z2 := un.frzs b ob _ z
            obtain ⟨e1, _⟩ := hok b _ z
            obtain ⟨e2, _⟩ := hok' b _ z2
            rw [e] at e1; cases e1
            exact e2
  cases hk : K.lookup a with
  | some o =>
    have e := KX a o hk
    rw [ha] at e
    cases e
    refine core (fun _ => none) (fun _ => .inl rfl) (.inr ⟨_, vs.toArray, _, hk, rfl, rfl, rfl, by rw [List.size_toArray, lenV]; exact hl, by simpa using rv⟩) (fun b u z => by have z' : (none : Option HO) = some u := z; cases z') (fun b z => absurd rfl z) fun z => absurd rfl z
  | none =>
    refine core (fun b => if b = a then some (.frz { cls := .type "list", data := .seq vs.toArray } (.lst (ns.map V.int))) else none) (fun b => ?_) (.inl (.inr ⟨{ cls := .type "list", data := .seq vs.toArray }, if_pos rfl⟩)) (fun b u z => ?_) (fun b z => ?_) fun _ => hk
    · by_cases hb : b = a
      · exact .inr ⟨_, _, if_pos hb⟩
      · exact .inl (if_neg hb)
    · by_cases hb : b = a
      · have z' := (if_pos hb).symm.trans z
        cases z'
        subst hb
        exact ⟨ha, by rw [List.length_map]; exact hl, vs, _, rv, ha⟩
      · have z' := (if_neg hb).symm.trans z
        cases z'
    · by_cases hb : b = a
      · exact hb
      · exact absurd (if_neg hb) z
end L2
namespace L2
open PySem PySem.Spec PyProof.Rows
abbrev KOf {K : PySem.W.Frag} {h : Heap} (_ : K.In h) : PySem.W.Frag := K
theorem walk_of {l : PySem.W.OpenLaw} {n k : Nat} {q : Program} {loose : List Str} {XP : (Str → Option Value) → Heap → Prop} {YP : World → Heap → Prop} {d : DefRec} {K : Params → PySem.W.Frag} {CX : World → CXT} {sp : World → Sp} {x : Str}
    (hn : l.most = some n) (hn2 : n ≤ sizeLine) (hdf : d.params.defaults = []) (hr : Room k callerA)
    (hY : ∀ (w : World) (h : Heap), YP w h → (K w.params).In h)
    (F : ∀ (w : World) (mg : Str → Option Value) (fa : Addr) (h : Heap), (K w.params).In h → h.Ns mainGlobals mg → mg d.name = some (.ref fa) →
      ∃ fd : FuncData, (∀ (s : Shared) (u : Value), BindsTo s fd ⟨[u], []⟩ [(x, u)]) ∧
        ∀ base : Heap, (K w.params).In base → base.Ns mainGlobals mg → FnOk l.prog w (K w.params) mg base (CX w) k fa fd [x] (sp w))
    (hsp : ∀ (w : World) (H : Hp) (a : Addr) (ns : List Int), ns.length ≤ n → Only H → SqL (K w.params) H a (ns.map V.int) → sp w [.ref a] H (fun v _ => v = .bl true) fun _ _ _ => False)
    (hCX : ∀ (w : World) (H : Hp) (s : Shared) (e : Value) (s' : Shared), CX w [] H s (fun _ _ _ => False) e s' → False) :
    PySem.W.WalkO q loose XP YP l.row.toRowW d [] (fun f vs => PySem.call f vs) := by
  refine Att.attach_call hn hdf fun w s₀ s₁ mg mb fa o pm cd doc a vs ns G Y ho hd hcd hmg hobj hints hlen hg => ?_
  have KX := hY w _ Y
  obtain ⟨fd, hb, hF⟩ := F w mg fa _ KX G.T.g hmg
  exact law_call KX G.T.g G.T.b G.T.builtins G.T.nolimit hg hobj hints (Nat.le_trans hlen hn2) hr hF hb (fun H hO hS => hsp w H a ns hlen hO hS) fun H e s' => hCX w H s₁ e s'
end L2
namespace L2
open PySem PySem.Spec PyProof.Rows
def inClass (s : Stmt) (j : Nat) : Stmt := match s with
  | .ClassDef _ _ _ body _ _ _ _ _ _ _ => body.getD j (.Pass ⟨0, 0, 0, 0⟩)
  | _ => .Pass ⟨0, 0, 0, 0⟩
def defArgs (s : Stmt) : Arguments := match s with
  | .FunctionDef _ a _ _ _ _ _ _ _ _ => a
  | _ => { posonlyargs := [], args := [], vararg := none, kwonlyargs := [], kw_defaults := [], kwarg := none, defaults := [] }
def defBody (s : Stmt) : List Stmt := match s with
  | .FunctionDef _ _ b _ _ _ _ _ _ _ => b
  | _ => []
def defScope (s : Stmt) : Scope := match s with
  | .FunctionDef _ _ _ _ _ _ sc _ _ _ => sc
  | _ => { kind := .function, names := [], isGenerator := false, isCoroutine := false }
abbrev CX0 : CXT := fun _ _ _ _ _ _ => False
abbrev E0 : XK := fun _ _ _ => False
theorem pass0 {X : Cx} : Passes CX0 X E0 := fun _ _ _ _ _ _ _ h => h.elim
structure Fun (K : PySem.W.Frag) (x qual : Str) (st : Stmt) (f : Addr) (fd : FuncData) : Prop where
  ex : ∃ (oc : Value) (od : Option Addr) (kV doc pm : Value) (an : Option Addr) (cdv ct : Value) (osl : Array (Option Value)),
    fd = PySem.W.fnOf x qual (defArgs st) (defBody st) (defScope st) .none kV doc pm an cdv ct ∧ K.lookup f = some ⟨oc, od, .func fd, osl⟩ ∧ PySem.W.codeIn K cdv qual = true
  kp : PySem.W.keepIn K (.ref f) = true
section
variable {P : Program} {w : World} {K : PySem.W.Frag} {mg : Str → Option Value} {base : Heap}
theorem Fun.ok {x qual : Str} {st : Stmt} {f : Addr} {fd : FuncData} {N ps : List Str} {k : Nat} {sp : Sp} (F : Fun K x qual st f fd) (S : FnScope N ps (defScope st)) (len : ∀ vs H Q E, sp vs H Q E → vs.length = ps.length)
    (hbody : ∀ (cdv : Value) (A : Around) (outer : List Env) (s : Shared) (H : Hp) (vs : List V) (Q : VK) (E : XK), Room k (A.deeper (envOfC qual (defScope st) s.heap.objs.size f cdv)) → sp vs H Q E →
      ∃ t, PSs (cxOf CX0 P w K mg base N qual (defScope st) f cdv A outer s H E).nox (defBody st) t ∧ t { nx := fun _ H' => Q .non H', rt := Q } (start N vs) H) : FnOk P w K mg base CX0 (k + 1) f fd ps sp := by
  obtain ⟨oc, od, kV, doc, pm, an, cdv, ct, osl, rfl, lk, hcd⟩ := F.ex
  refine fn_of lk hcd S len fun A outer s H vs Q E hr hsp => ?_
  obtain ⟨t, h, q⟩ := hbody cdv A outer s H vs Q E hr hsp
  exact ⟨t, h.nox, q⟩
theorem Fun.binds {x qual : Str} {st : Stmt} {f : Addr} {fd : FuncData} {ps : List Str} (F : Fun K x qual st f fd)
    (h : ∀ (kV doc pm : Value) (an : Option Addr) (cdv ct : Value) (us : List Value), us.length = ps.length → bindArgs (PySem.W.fnOf x qual (defArgs st) (defBody st) (defScope st) .none kV doc pm an cdv ct) ⟨us, []⟩ = pure (ps.zip us)) : Binds K fd ps [] := by
  obtain ⟨oc, od, kV, doc, pm, an, cdv, ct, osl, rfl, lk, hcd⟩ := F.ex
  exact .all (h kV doc pm an cdv ct)
theorem fun_mk {x qual : Str} {st : Stmt} {f : Addr} {oc : Value} {od an : Option Addr} {osl : Array (Option Value)} {kV doc pm cdv ct : Value} (l : K.lookup f = some ⟨oc, od, .func (PySem.W.fnOf x qual (defArgs st) (defBody st) (defScope st) .none kV doc pm an cdv ct), osl⟩)
    (c : PySem.W.codeIn K cdv qual = true) (k : PySem.W.keepIn K (.ref f) = true) : Fun K x qual st f (PySem.W.fnOf x qual (defArgs st) (defBody st) (defScope st) .none kV doc pm an cdv ct) := ⟨⟨oc, od, kV, doc, pm, an, cdv, ct, osl, rfl, l, c⟩, k⟩
end
theorem hu_of {A : Around} {k : Nat} (hr : Room k A) : A.units + 1 < cLine := Nat.lt_of_le_of_lt (Nat.add_le_add_left (by decide : 1 ≤ 64) _) hr.units
theorem small1000 {n : Nat} (h : n ≤ 1000) : n < sizeLine := Nat.lt_of_le_of_lt h (by decide)
section
variable {X : Cx}
theorem pv (i : Nat) {x : Str} {pos : Pos} (hN : X.N[i]? = some x := by rfl) (hv : Vis X.env.scope x := by first | exact Or.inl rfl | exact Or.inr (Or.inl rfl) | exact Or.inr (Or.inr rfl)) (hd : (x == ("__debug__" : Str)) = false := by decide)
    (hcd : (x == ("__classdict__" : Str)) = false := by decide) : PE X (.Name x pos) (tVar i) := pe_var hN hv hd hcd
end
theorem iteF {A B : Prop} (h : B) : if false = true then A else B := by
  rw [if_neg Bool.false_ne_true]
  exact h
theorem iteT {A B : Prop} (h : A) : if true = true then A else B := by
  rw [if_pos rfl]
  exact h
theorem ite2 {c A B : Prop} [Decidable c] (h1 : c → A) (h2 : ¬ c → B) : if c then A else B := by
  by_cases h : c
  · rw [if_pos h]
    exact h1 h
  · rw [if_neg h]
    exact h2 h
theorem iteNS {c A B : Prop} [Decidable c] (hc : c) (h : B) : if (!decide c) = true then A else B := by
  rw [decide_eq_true hc]
  exact iteF h
def Same (H H' : Hp) : Prop := ∀ b o, H b = some o → H' b = some o
theorem Same.refl (H : Hp) : Same H H := fun _ _ h => h
theorem Same.trans {H H1 H2 : Hp} (a : Same H H1) (b : Same H1 H2) : Same H H2 := fun c o h => b c o (a c o h)
theorem Same.free {H H' : Hp} (e : Same H H') {l : Addr} (h : H' l = Option.none) : H l = Option.none := by
  cases q : H l with
  | none => rfl
  | some o =>
    rw [e l o q] at h
    cases h
theorem Same.seq {K : PySem.W.Frag} {H H' : Hp} {a : Addr} {xs : List V} (e : Same H H') (h : SqL K H a xs) : SqL K H' a xs := by
  rcases h with (h | ⟨o, h⟩) | h
  · exact .inl (.inl (e _ _ h))
  · exact .inl (.inr ⟨o, e _ _ h⟩)
  · exact .inr h
end L2
set_option Elab.async false
set_option linter.all false
set_option maxRecDepth 100000
set_option maxHeartbeats 4000000
namespace L2
open PySem PySem.Spec PyProof.Rows
section
variable {X : Cx} {pins : List (Addr × Obj)} {σ : List (Option V)} {H : Hp} {s : Shared} {h' : Heap}
end
section
variable {X : Cx}
theorem call_isinst : CallR X (.builtin "isinstance") (fun xs H Q => ∃ x t T b, xs = [x, .ty T] ∧ TyOf X.K H x t ∧ PySem.W.kitOne X.K t (.type T) = some b ∧ Q (.bl b) H) := by
  intro pins s σ H xs us Q I r h
  obtain ⟨x, t, T, b, rfl, ty, e, q⟩ := h
  obtain ⟨u, w', rfl, rx, ry⟩ := vals2 r
  cases (show w' = Value.type T from ry)
  exact isinst_ok I rx ty e fun tk => ⟨.bl b, H, I.tok _, rfl, q⟩
theorem eqV_refl : ∀ {x : V}, flatV x = true → eqV x x = true
  | .non, _ => by rfl
  | .bl b, _ => by simp [eqV]
  | .int i, _ => by simp [eqV]
  | .str z, _ => by simp [eqV]
  | .byt _, h => by first | exact absurd (show false = true from h) Bool.false_ne_true | simp [eqV]
  | .flt _, h => by first | exact absurd (show false = true from h) Bool.false_ne_true | simp [eqV]
  | .ref _, h => by first | exact absurd (show false = true from h) Bool.false_ne_true | simp [eqV]
  | .ty _, h => by first | exact absurd (show false = true from h) Bool.false_ne_true | simp [eqV]
theorem same_items {A : Around} {s : Shared} {xs : List V} {its its2 : List Value} (r1 : Vals xs its) (r2 : Vals xs its2) (hf : xs.all flatV = true) :
    ∀ j (h1 : j < its.toArray.size) (h2 : j < its2.toArray.size), SeqAt.EqAt A s its.toArray[j] its2.toArray[j] true := by
  intro j h1 h2
  have hl := r1.length
  have hj : j < xs.length := by simpa [hl] using h1
  have hx : xs[j]? = some xs[j] := by simp [hj]
  obtain ⟨u, hu, ru⟩ := r1.get hx
  obtain ⟨u2, hu2, ru2⟩ := r2.get hx
  have fx : flatV xs[j] = true := List.all_eq_true.mp hf _ (List.getElem_mem hj)
  have e1 : its.toArray[j] = u := by
    have : its[j]? = some its.toArray[j] := by simp at h1; simp [h1]
    rw [hu] at this; exact (Option.some.inj this).symm
  have e2 : its2.toArray[j] = u2 := by
    have : its2[j]? = some its2.toArray[j] := by simp at h2; simp [h2]
    rw [hu2] at this; exact (Option.some.inj this).symm
  rw [e1, e2]
  have := eqAt_V (A := A) (s := s) ru ru2 fx fx
  rw [eqV_refl fx] at this
  exact this
theorem op_eqL_same (hu : X.A.units < cLine) : OpR X (compareOp .Eq) (fun x y H Q => ∃ a b xs, x = .ref a ∧ y = .ref b ∧ SqL X.K H a xs ∧ SqL X.K H b xs ∧ xs.all flatV = true ∧ Q (.bl true) H) := by
  intro pins s σ H x y v u Q I rx ry h
  obtain ⟨a, b, xs, rfl, rfl, ha, hb, hf, q⟩ := h
  cases rx
  cases ry
  obtain ⟨its, r1, p1, _⟩ := I.list ha
  obtain ⟨its2, r2, p2, _⟩ := I.list hb
  have hl1 := r1.length
  have hl2 := r2.length
  refine SeqAt.eq_listAt (e := fun _ => true) p1.isList p2.isList (by simp; omega) hu (same_items r1 r2 hf) ?_
  have e : ((List.range its.toArray.size).all (fun _ => true)) = true := by simp
  rw [e]
  exact ⟨.bl true, H, I, rfl, q⟩
end
end L2
namespace ET
open PySem PySem.Spec
open PySem.AutoSeq1 (wpAny_loadPart')
section
variable {prog : Program} {w : World} {A : Around} {E : Value → Shared → Prop} {s : Shared}
end
end ET
namespace L2
open PySem PySem.Spec PyProof.Rows
section
variable {X : Cx} {elts : List Expr} {k : Nat} {tpos : Pos}
end
end L2
set_option Elab.async false
set_option linter.all false
set_option maxRecDepth 100000
set_option maxHeartbeats 4000000
namespace L2
open PySem PySem.Spec PyProof.Rows
structure Cl (P : Program) (w : World) (K : PySem.W.Frag) (mg : Str → Option Value) (base : Heap) (k : Nat) (x : Str) (ps : List Str) (sp : Sp) : Prop where
  ex : ∃ f fd, FnOk P w K mg base CX0 k f fd ps sp ∧ mg x = some (.ref f) ∧ PySem.W.keepIn K (.ref f) = true ∧ Binds K fd ps []
theorem pe_fn {X : Cx} {j k : Nat} {x : Str} {ps : List Str} {sp : Sp} {e : Expr} {es : List Expr} {t : TA} {p pos : Pos} (C : Cl X.prog X.w X.K X.mg X.base j x ps sp) (hr : Room k X.A) (hg : Gl X x) (ha : PA X (e :: es) t) (hjk : j ≤ k := by decide)
    (hdb : (x == ("__debug__" : Str)) = false := by decide) (he : starEach (e :: es) X.env = (false, eval e X.env) :: starEach es X.env := by rfl) (hpl : (backTo pos (starEach es X.env)).any (·.1) = false := by rfl) :
    PE X (.Call (.Name x p) (e :: es) [] pos) (tCall sp [] E0 t) := by
  obtain ⟨f, fd, F, hm, hk, hb⟩ := C.ex
  exact pe_call F (hr.mono hjk) hg hm hk hb .nil pass0 ha hdb he hpl
def HasDef (K : PySem.W.Frag) (mg : Str → Option Value) (x : Str) (st : Stmt) : Prop := ∃ f fd, Fun K x x st f fd ∧ mg x = some (.ref f)
theorem hasDef_mk {K : PySem.W.Frag} {mg : Str → Option Value} {h : Heap} {x : Str} {st : Stmt} {f : Addr} {oc : Value} {od an : Option Addr} {osl : Array (Option Value)} {kV doc pm cdv ct : Value} (X : K.In h) (G : h.Ns mainGlobals mg)
    (a : PySem.W.nsIn K mainGlobals x = some (some (.ref f))) (l : K.lookup f = some ⟨oc, od, .func (PySem.W.fnOf x x (defArgs st) (defBody st) (defScope st) .none kV doc pm an cdv ct), osl⟩)
    (c : PySem.W.codeIn K cdv x = true) (k : PySem.W.keepIn K (.ref f) = true) : HasDef K mg x st :=
  ⟨f, _, fun_mk l c k, PySem.W.mg_of X G a⟩
theorem Cl.of {P : Program} {w : World} {K : PySem.W.Frag} {mg : Str → Option Value} {base : Heap} {x : Str} {st : Stmt} {N ps : List Str} {k : Nat} {sp : Sp} (T : HasDef K mg x st) (S : FnScope N ps (defScope st)) (len : ∀ vs H Q E, sp vs H Q E → vs.length = ps.length)
    (hb : ∀ (kV doc pm : Value) (an : Option Addr) (cdv ct : Value) (us : List Value), us.length = ps.length → bindArgs (PySem.W.fnOf x x (defArgs st) (defBody st) (defScope st) .none kV doc pm an cdv ct) ⟨us, []⟩ = pure (ps.zip us))
    (hbody : ∀ (f : Addr) (cdv : Value) (A : Around) (outer : List Env) (s : Shared) (H : Hp) (vs : List V) (Q : VK) (E : XK), Room k (A.deeper (envOfC x (defScope st) s.heap.objs.size f cdv)) → sp vs H Q E →
      ∃ t, PSs (cxOf CX0 P w K mg base N x (defScope st) f cdv A outer s H E).nox (defBody st) t ∧ t { nx := fun _ H' => Q .non H', rt := Q } (start N vs) H) : Cl P w K mg base (k + 1) x ps sp := by
  obtain ⟨f, fd, F, m⟩ := T
  exact ⟨f, fd, F.ok S len (fun cdv A outer s H vs Q E => hbody f cdv A outer s H vs Q E), m, F.kp, F.binds hb⟩
def Tups (H H' : Hp) : Prop := ∀ b xs, H b = some (.tup xs) → H' b = some (.tup xs)
section
variable {H H1 H2 : Hp} {l p : Addr} {o : HO} {xs ys : List V}
theorem Same.tups (e : Same H H1) : Tups H H1 := fun b xs q => e b _ q
theorem Tups.trans (a : Tups H H1) (b : Tups H1 H2) : Tups H H2 := fun c xs q => b c xs (a c xs q)
theorem Tups.lst (h : H l = some (.lst xs)) : Tups H (upd H l (.lst ys)) := fun b zs q => by
  rw [upd_ne (ne_of q h (by intro z; cases z))]; exact q
theorem Same.put (s : Same H H1) (h : H l = none) : Same H (upd H1 l o) := fun b u q => by
  rw [upd_ne (ne_of_none q h)]; exact s b u q
theorem Same.new (s : Same H H1) (h : H1 p = none) : Same H (upd H1 p o) := s.put (s.free h)
theorem upd_keep {u : HO} (h : H l = some u) (hp : H p = none) : upd H p o l = some u := by
  rw [upd_ne (ne_of_none h hp)]; exact h
end
theorem atI_getD {α : Type} (xs : List α) (d : α) {i : Int} (h0 : 0 ≤ i) (h1 : i < (xs.length : Int)) : atI xs i = some (xs.getD i.toNat d) := by
  have e : i = ((i.toNat : Nat) : Int) := by omega
  have hl : i.toNat < xs.length := by omega
  have hx : xs[i.toNat]? = some (xs.getD i.toNat d) := by
    rw [List.getD_eq_getElem?_getD]
    simp [hl]
  have := atI_nat hx
  rw [← e] at this
  exact this
theorem atI_map {α : Type} (f : α → V) (xs : List α) (d : α) {i : Int} (h0 : 0 ≤ i) (h1 : i < (xs.length : Int)) : atI (xs.map f) i = some (f (xs.getD i.toNat d)) := by
  have := atI_getD (xs.map f) (f d) h0 (by simpa using h1)
  rw [this, List.getD_eq_getElem?_getD, List.getElem?_map, List.getD_eq_getElem?_getD]
  have hl : i.toNat < xs.length := by omega
  simp [hl]
theorem ite2I {i j : Int} {A B : Prop} (h1 : i = j → A) (h2 : ¬ i = j → B) : if decide (V.int i = V.int j) = true then A else B :=
  ite2 (fun h => h1 (V.int.inj (of_decide_eq_true h))) fun h => h2 fun e => h (decide_eq_true (congrArg V.int e))
theorem iteDP {p : Prop} [Decidable p] {A B : Prop} (hp : p) (h : A) : if decide p = true then A else B := by
  rw [if_pos (decide_eq_true hp)]; exact h
theorem iteDN {p : Prop} [Decidable p] {A B : Prop} (hp : ¬ p) (h : B) : if decide p = true then A else B := by
  rw [if_neg (by rw [decide_eq_false hp]; exact Bool.false_ne_true)]; exact h
theorem neIF {i : Int} {A B : Prop} (h : B) : if (!decide (V.int i = V.int i)) = true then A else B := iteNS rfl h
theorem kit_same (K : PySem.W.Frag) (T : String) : PySem.W.kitOne K (.type T) (.type T) = some true := by
  unfold PySem.W.kitOne
  rw [if_pos (by simp)]
theorem kit_int_bool (K : PySem.W.Frag) : PySem.W.kitOne K (.type "int") (.type "bool") = some false := by kernel_rfl
theorem Paired.get? {α β : Type} {F : α → β → Prop} : ∀ {xs : List α} {ys : List β} {i : Nat} {x : α}, Paired F xs ys → xs[i]? = some x → ∃ y, ys[i]? = some y ∧ F x y
  | _, _, _, _, .nil, e => by simp at e
  | _, _, 0, _, .cons r _, e => by simp at e; subst e; exact ⟨_, rfl, r⟩
  | _, _, i + 1, x, .cons _ t, e => by
    obtain ⟨u, h1, h2⟩ := Paired.get? (i := i) (x := x) t (by simpa using e)
    exact ⟨u, by simpa using h1, h2⟩
theorem Paired.get?' {α β : Type} {F : α → β → Prop} : ∀ {xs : List α} {ys : List β} {i : Nat} {y : β}, Paired F xs ys → ys[i]? = some y → ∃ x, xs[i]? = some x ∧ F x y
  | _, _, _, _, .nil, e => by simp at e
  | _, _, 0, _, .cons r _, e => by simp at e; subst e; exact ⟨_, rfl, r⟩
  | _, _, i + 1, x, .cons _ t, e => by
    obtain ⟨u, h1, h2⟩ := Paired.get?' (i := i) (y := x) t (by simpa using e)
    exact ⟨u, by simpa using h1, h2⟩
theorem take_succ_get {α : Type} {l : List α} {i : Nat} {x : α} (h : l[i]? = some x) : l.take (i + 1) = l.take i ++ [x] := by
  rw [List.take_succ, h]; rfl
end L2
set_option Elab.async false
set_option linter.all false
set_option maxRecDepth 100000
set_option maxHeartbeats 4000000
namespace L2
open PySem PySem.Spec PyProof.Rows
section
variable {X : Cx}
end
section
variable {X : Cx}
theorem log_ok {n : Int} (h1 : 0 ≤ n) (h2 : n < 10 ^ 60) : n.natAbs.log2 < 1920 := by
  have h3 : n.natAbs < 2 ^ 1920 := by
    have : n.natAbs < 10 ^ 60 := by omega
    exact Nat.lt_of_lt_of_le this (by decide)
  by_cases hz : n.natAbs = 0
  · rw [hz]; decide
  · exact (Nat.log2_lt hz).mpr h3
end
end L2
set_option Elab.async false
set_option linter.all false
set_option maxRecDepth 100000
set_option maxHeartbeats 4000000
namespace L2
open PySem PySem.Spec PyProof.Rows
def closL (cells : List (Str × Addr)) : List (Str × NameKind) → List (Str × Addr) → List (Str × Addr)
  | [], cs => cs
  | (n, k) :: r, cs => closL cells r (if k == .free then (n, (cells.lookup n).getD 0) :: cs else cs)
theorem closL_pure {cells : List (Str × Addr)} {env : Env} (he : env.cells = cells) : ∀ (l : List (Str × NameKind)) (cs : List (Str × Addr)), (∀ y ∈ l, y.2 = .free → ∃ c, cells.lookup y.1 = some c) →
    (forIn l cs fun p cs => (do if p.2 == .free then (do let a ← cellOf env p.1; pure (ForInStep.yield ((p.1, a) :: cs))) else pure (ForInStep.yield cs) : Sem (ForInStep (List (Str × Addr))))) = pure (closL cells l cs) := by
  intro l
  induction l with
  | nil => intro cs _; rfl
  | cons p r ih =>
    intro cs h
    obtain ⟨n, k⟩ := p
    rw [List.forIn_cons]
    have hr : ∀ y ∈ r, y.2 = .free → ∃ c, cells.lookup y.1 = some c := fun y hy => h y (List.mem_cons_of_mem _ hy)
    by_cases hk : k = .free
    · subst hk
      obtain ⟨c, hc⟩ := h (n, .free) List.mem_cons_self rfl
      have hc' : env.cells.lookup n = some c := by rw [he]; exact hc
      have e : cellOf env n = pure c := by unfold cellOf; rw [hc']
      simp only [beq_self_eq_true, if_true, e, pure_bind]
      rw [ih _ hr]
      unfold closL
      rw [if_pos (by simp), show (cells.lookup n).getD 0 = c by rw [show cells.lookup n = some c from hc]; rfl]
      conv => rhs; unfold closL
    · have hb : (k == NameKind.free) = false := by simpa using hk
      simp only [hb, Bool.false_eq_true, if_false, pure_bind]
      rw [ih _ hr]
      conv => rhs; unfold closL
      rw [if_neg (by rw [hb]; exact Bool.false_ne_true)]
theorem closL_lookup {cells : List (Str × Addr)} {x : Str} {c : Addr} : ∀ (l : List (Str × NameKind)) (cs : List (Str × Addr)), (∀ y ∈ l, y.2 = .free → ∃ c, cells.lookup y.1 = some c) → (closL cells l cs).lookup x = some c → cells.lookup x = some c ∨ cs.lookup x = some c
  | [], cs, _, h => .inr h
  | (n, k) :: r, cs, hy, h => by
    unfold closL at h
    rcases closL_lookup r _ (fun y q => hy y (List.mem_cons_of_mem _ q)) h with h | h
    · exact .inl h
    · by_cases hk : k = .free
      · subst hk
        obtain ⟨c', hc⟩ := hy (n, .free) List.mem_cons_self rfl
        have hc : cells.lookup n = some c' := hc
        rw [if_pos (by simp), List.lookup_cons] at h
        split at h
        · rename_i e
          have e' : x = n := by simpa using e
          subst e'
          rw [hc] at h
          cases h
          exact .inl hc
        · exact .inr h
      · rw [if_neg (by simpa using hk)] at h
        exact .inr h
theorem closL_keep {cells : List (Str × Addr)} {x : Str} : ∀ (l : List (Str × NameKind)) (cs : List (Str × Addr)), (∃ c, cs.lookup x = some c) → ∃ c, (closL cells l cs).lookup x = some c
  | [], _, h => h
  | (n, k) :: r, cs, h => by
    unfold closL
    refine closL_keep r _ ?_
    split
    · rw [List.lookup_cons]
      split
      · exact ⟨_, rfl⟩
      · exact h
    · exact h
theorem closL_has {cells : List (Str × Addr)} {x : Str} : ∀ (l : List (Str × NameKind)) (cs : List (Str × Addr)), (x, NameKind.free) ∈ l → ∃ c, (closL cells l cs).lookup x = some c
  | (n, k) :: r, cs, h => by
    unfold closL
    rcases List.mem_cons.mp h with e | h
    · cases e
      refine closL_keep r _ ?_
      rw [if_pos (by simp), List.lookup_cons]
      simp
    · exact closL_has r _ h
theorem closure_pure {sc : Scope} {env : Env} (h : ∀ y ∈ sc.names, y.2 = .free → ∃ c, env.cells.lookup y.1 = some c) : closureFor sc env = pure (closL env.cells sc.names []) := by
  have := closL_pure (env := env) rfl sc.names [] h
  unfold closureFor
  simp only [bind_pure]
  exact this
theorem relabel_free {env : Env} {x : Str} : ∀ {names : List (Str × NameKind)}, names.lookup x = some .free →
    (names.map fun (n, k) => if (k == NameKind.free && env.scope.kind == .function && env.kindOf n == some .cell) then (n, NameKind.cell) else (n, k)).lookup x = some .cell ∨
    (names.map fun (n, k) => if (k == NameKind.free && env.scope.kind == .function && env.kindOf n == some .cell) then (n, NameKind.cell) else (n, k)).lookup x = some .free
  | [], h => by simp at h
  | (n, k) :: r, h => by
    have ih := @relabel_free env x r
    simp only [List.map_cons]
    by_cases hc : (k == NameKind.free && env.scope.kind == .function && env.kindOf n == some .cell) = true
    · rw [if_pos hc]
      simp only [List.lookup_cons] at h ⊢
      cases hx : x == n with
      | true => exact .inl rfl
      | false => simp only [hx] at h ⊢; exact ih h
    · rw [if_neg hc]
      simp only [List.lookup_cons] at h ⊢
      cases hx : x == n with
      | true => simp only [hx] at h ⊢; exact .inr h
      | false => simp only [hx] at h ⊢; exact ih h
theorem relabel_back {env : Env} {x : Str} : ∀ {names : List (Str × NameKind)},
    (names.map fun (n, k) => if (k == NameKind.free && env.scope.kind == .function && env.kindOf n == some .cell) then (n, NameKind.cell) else (n, k)).lookup x = some .cell ∨
    (names.map fun (n, k) => if (k == NameKind.free && env.scope.kind == .function && env.kindOf n == some .cell) then (n, NameKind.cell) else (n, k)).lookup x = some .free →
    (x, NameKind.free) ∈ names ∨ (x, NameKind.cell) ∈ names
  | [], h => by simp at h
  | (n, k) :: r, h => by
    have ih := @relabel_back env x r
    simp only [List.map_cons] at h
    have tl : (x, NameKind.free) ∈ r ∨ (x, NameKind.cell) ∈ r → (x, NameKind.free) ∈ (n, k) :: r ∨ (x, NameKind.cell) ∈ (n, k) :: r := fun q => q.imp (List.mem_cons_of_mem _) (List.mem_cons_of_mem _)
    by_cases hc : (k == NameKind.free && env.scope.kind == .function && env.kindOf n == some .cell) = true
    · rw [if_pos hc] at h
      have hk : k = .free := by
        simp only [Bool.and_eq_true] at hc
        simpa using hc.1.1
      simp only [List.lookup_cons] at h
      cases hx : x == n with
      | true =>
        have e : x = n := by simpa using hx
        subst e hk
        exact .inl List.mem_cons_self
      | false => simp only [hx] at h; exact tl (ih h)
    · rw [if_neg hc] at h
      simp only [List.lookup_cons] at h
      cases hx : x == n with
      | true =>
        have e : x = n := by simpa using hx
        subst e
        simp only [hx] at h
        rcases h with h | h
        · cases h; exact .inr List.mem_cons_self
        · cases h; exact .inl List.mem_cons_self
      | false => simp only [hx] at h; exact tl (ih h)
structure CompScope (osc : Scope) (N : List Str) (sc : Scope) (M : List Str) (ρ : List (Option Nat)) : Prop where
  kind : sc.kind = .function
  nocell : ∀ y ∈ sc.names, y.2 ≠ .cell
  own : ∀ y ∈ sc.names, y.2 = .local → sc.names.lookup y.1 = some .local
  fre : ∀ y ∈ sc.names, y.2 = .free → osc.names.lookup y.1 = some .cell ∨ osc.names.lookup y.1 = some .free
  len : ρ.length = M.length
  ren : ∀ p ∈ ρ.zip M, (match p.1 with | none => true | some i => decide (N[i]? = some p.2 ∧ sc.names.lookup p.2 = some .free)) = true
  nd : M.Nodup
def subS (ρ : List (Option Nat)) (σ : St) : St := ρ.map fun o => match o with | none => none | some i => (σ[i]?).join
def cxComp (X : Cx) (sc : Scope) (cl : List (Str × Addr)) (C : Addr) (M : List Str) (s : Shared) (H : Hp) (fp : List Addr) (xe : Value → Shared → Prop) : Cx where
  prog := X.prog
  w := X.w
  K := X.K
  mg := X.mg
  base := X.base
  A := X.A
  N := M
  s₀ := s
  H₀ := H
  env := compEnvC sc cl C X.env
  outer := X.stack
  stack := X.stack
  ex := fp
  fn := fun _ => false
  calm := X.calm
  pn := []
  xe := xe
theorem comp_loop {P : Program} {w : World} {A : Around} {R : Result → Shared → Prop} {s : Shared} {elt tg iter : Expr} {ifs : List Expr} {sc : Scope} {pos : Pos} {it acc : Value} {env : Env} (J : Nat → Shared → Prop)
    (turn : ∀ n s, J n s → wpAny (model P w) A (pyNext it) (fun r s1 => match r with
      | none => R (.ok .next) s1
      | some v => wpAny (model P w) A (letOwnedTupleGo tg it v) (fun _ s2 => wpAny (model P w) A (assign tg env v) (fun _ s3 =>
          wpAny (model P w) A (forIn ifs true fun c r => if r = true then do let ok ← isTrue c env (eval c env); pure (ForInStep.yield ok) else pure (ForInStep.yield r)) (fun ok s4 =>
            if ok = true then wpAny (model P w) A (eval elt env) (fun x s5 => wpAny (model P w) A (call (.builtin "list.append") [acc, x]) (fun _ s6 => ∃ m, m < n ∧ J m s6) (notedBy (model P w) A env fun e s' => R (.error e) s') s5)
              (notedBy (model P w) A env fun e s' => R (.error e) s') s4
            else ∃ m, m < n ∧ J m s4) (notedBy (model P w) A env fun e s' => R (.error e) s') s3) (notedBy (model P w) A env fun e s' => R (.error e) s') s2) (notedBy (model P w) A env fun e s' => R (.error e) s') s1)
      (notedBy (model P w) A env fun e s' => R (.error e) s') s)
    (n : Nat) (h : J n s) : codeAny (model P w) A (.compLoop (.ListComp elt [⟨tg, iter, ifs, 0⟩] sc pos) 0 it acc env) R s := by
  refine codeAny_loop rfl J (fun n s hJ => ?_) n h
  show wpAny (model P w) A ((compTurn (.ListComp elt [⟨tg, iter, ifs, 0⟩] sc pos) 0 it acc env).onRaise fun x => do noteFrame x env; theTreesLotGoes x) _ _ s
  refine wpAny_noted ?_
  rw [compTurn_list]
  refine wpAny_bind (wpAny_standAt (wpAny_bind (thn (turn n s hJ) fun r s1 h1 => ?_)))
  cases r with
  | none => exact wpAny_pure h1
  | some v =>
    refine wpAny_bind (thn h1 fun _ s2 h2 => wpAny_bind (thn h2 fun _ s3 h3 => wpAny_bind (thn h3 fun ok s4 h4 => ?_)))
    cases ok with
    | false => exact wpAny_pure ⟨rfl, h4⟩
    | true => exact wpAny_bind (wpAny_bind (thn h4 fun x s5 h5 => wpAny_bind (thn h5 fun _ s6 h6 => wpAny_pure (wpAny_pure ⟨rfl, h6⟩))))
def PTs (X : Cx) (ifs : List Expr) (t : TT) : Prop :=
  ∀ (pins : List (Addr × Obj)) (s : Shared) (σ : St) (H : Hp) (Q : Bool → Hp → Prop), Inv X pins σ H s → t σ H Q →
    wpAny (model X.prog X.w) X.A (forIn ifs true fun c r => if r = true then do let ok ← isTrue c X.env (eval c X.env); pure (ForInStep.yield ok) else pure (ForInStep.yield r)) (TP X pins σ Q) X.xe s
def tNoTest : TT := fun _ H Q => Q true H
theorem nt {σ : St} {H : Hp} {A B : Hp → Prop} (h : A H) : tNoTest σ H (fun b H5 => if b = true then A H5 else B H5) := by
  show if true = true then A H else B H
  exact iteT h
theorem ntG {i : Nat} {v : V} {σ : St} {H : Hp} {A B : St → Hp → Prop} (h : A (σ.set i (some v)) H) : gName i v σ H (fun σ4 H4 => tNoTest σ4 H4 fun b H5 => if b = true then A σ4 H5 else B σ4 H5) := by
  show if true = true then A (σ.set i (some v)) H else B (σ.set i (some v)) H
  exact iteT h
theorem pts_nil {X : Cx} : PTs X [] tNoTest := fun _ _ _ H _ I h => wpAny_tests_nil ⟨H, I, h⟩
theorem pts_one {X : Cx} {c : Expr} {t : TT} (h : PT X c t) : PTs X [c] t := fun pins s σ H Q I q => wpAny_tests_one (h pins s σ H Q I q)
def tComp (wi : TI) (ρ : List (Option Nat)) (g : TG) (tt : TT) (te : TE) : TE := fun σ H Q => wi σ H fun J H1 => ∀ D, H1 D = none → ∃ W : Nat → Nat → St → Hp → Prop, (∃ m, W 0 m (subS ρ σ) (upd H1 D (.lst []))) ∧ ∀ i m σ2 H2, W i m σ2 H2 →
  (J.stop i H2 ∧ Q (.ref D) H2) ∨ (J.go i H2 ∧ ∃ N : St → Hp → Prop, (∀ σ' H', N σ' H' → ∃ m', m' < m ∧ W (i + 1) m' σ' H') ∧ ∀ x H3, J.yld i H2 x H3 → g x σ2 H3 fun σ4 H4 => tt σ4 H4 fun b H5 =>
    if b = true then te σ4 H5 fun y H6 => ∃ ys, H6 D = some (.lst ys) ∧ ys.length < sizeLine ∧ N σ4 (upd H6 D (.lst (ys ++ [y])))
    else N σ4 H5)
theorem comp_by {J : It} {g : TG} {tt : TT} {te : TE} {Q : Hp → Prop} {σ : St} {H : Hp} {D : Addr} (n : Nat) (Pv : Nat → St → Hp → Prop) (h0 : Pv 0 σ (upd H D (.lst [])))
    (hs : ∀ i σ2 H2, i < n → Pv i σ2 H2 → J.go i H2 ∧ ∀ x H3, J.yld i H2 x H3 → g x σ2 H3 fun σ4 H4 => tt σ4 H4 fun b H5 =>
      if b = true then te σ4 H5 fun y H6 => ∃ ys, H6 D = some (.lst ys) ∧ ys.length < sizeLine ∧ Pv (i + 1) σ4 (upd H6 D (.lst (ys ++ [y]))) else Pv (i + 1) σ4 H5)
    (hd : ∀ σ2 H2, Pv n σ2 H2 → J.stop n H2 ∧ Q H2) :
    ∃ W : Nat → Nat → St → Hp → Prop, (∃ m, W 0 m σ (upd H D (.lst []))) ∧ ∀ i m σ2 H2, W i m σ2 H2 →
      (J.stop i H2 ∧ Q H2) ∨ (J.go i H2 ∧ ∃ N : St → Hp → Prop, (∀ σ' H', N σ' H' → ∃ m', m' < m ∧ W (i + 1) m' σ' H') ∧ ∀ x H3, J.yld i H2 x H3 → g x σ2 H3 fun σ4 H4 => tt σ4 H4 fun b H5 =>
        if b = true then te σ4 H5 fun y H6 => ∃ ys, H6 D = some (.lst ys) ∧ ys.length < sizeLine ∧ N σ4 (upd H6 D (.lst (ys ++ [y]))) else N σ4 H5) := by
  refine ⟨fun i m σ H => m = n - i ∧ i ≤ n ∧ Pv i σ H, ⟨n, by simp, Nat.zero_le _, h0⟩, ?_⟩
  rintro i m σ2 H2 ⟨rfl, hi, p⟩
  by_cases hlt : i < n
  · obtain ⟨h1, h2⟩ := hs i σ2 H2 hlt p
    exact .inr ⟨h1, Pv (i + 1), fun σ' H' p' => ⟨n - (i + 1), by omega, rfl, hlt, p'⟩, h2⟩
  · have e : i = n := by omega
    subst e
    exact .inl (hd σ2 H2 p)
section
variable {X : Cx} {tg elt iter : Expr} {ifs : List Expr} {sc : Scope} {pos : Pos} {M : List Str} {ρ : List (Option Nat)} {wi : TI} {g : TG} {tt : TT} {te : TE}
theorem comp_block (osc : Scope) (hosc : X.env.scope = osc) (N : List Str) (hN : X.N = N) (S : CompScope osc N sc M ρ) (hc : X.calm = true)
    (hg : ∀ cl C s H fp xe, PG (cxComp X sc cl C M s H fp xe) tg g) (ht : ∀ cl C s H fp xe, PTs (cxComp X sc cl C M s H fp xe) ifs tt) (he : ∀ cl C s H fp xe, PE (cxComp X sc cl C M s H fp xe) elt te)
    {pins : List (Addr × Obj)} {σ : St} {H : Hp} {s : Shared} {itv : Value} {Q : VK} {RR : Value → Addr → Result → Shared → Prop} (I : Inv X pins σ H s)
    (h2 : PIE X pins σ tg (fun J H1 => ∀ D, H1 D = none → ∃ W : Nat → Nat → St → Hp → Prop, (∃ m, W 0 m (subS ρ σ) (upd H1 D (.lst []))) ∧ ∀ i m σ2 H2, W i m σ2 H2 →
      (J.stop i H2 ∧ Q (.ref D) H2) ∨ (J.go i H2 ∧ ∃ N : St → Hp → Prop, (∀ σ' H', N σ' H' → ∃ m', m' < m ∧ W (i + 1) m' σ' H') ∧ ∀ x H3, J.yld i H2 x H3 → g x σ2 H3 fun σ4 H4 => tt σ4 H4 fun b H5 =>
        if b = true then te σ4 H5 fun y H6 => ∃ ys, H6 D = some (.lst ys) ∧ ys.length < sizeLine ∧ N σ4 (upd H6 D (.lst (ys ++ [y])))
        else N σ4 H5)) itv s)
    (hR : ∀ (D C : Addr) (H' : Hp) (s' : Shared) (mC : Str → Option Value), Inv X pins σ H' s' → s'.heap.Ns C mC → FpOk X pins H' C → Q (.ref D) H' → RR (.ref D) C (.ok .next) s') :
    wpAny (model X.prog X.w) X.A (newList []) (fun acc s3 => wpAny (model X.prog X.w) X.A (newFunctionEnv sc X.env.globals (closL X.env.cells sc.names []) [] X.env.qual none .none (some X.env)) (fun cenv s4 =>
      codeAny (model X.prog X.w) X.A (.compStart (.ListComp elt [⟨tg, iter, ifs, 0⟩] sc pos) 0 itv acc { cenv with scope := relabel sc X.env }) (RR acc cenv.locals) s4) X.xe s3) X.xe s := by
  subst hosc hN
  obtain ⟨it, fp, tn, J, H2, rfl, I2, T, st2, f2, q2⟩ := h2
  have hcells : ∀ y ∈ sc.names, y.2 = .free → ∃ c, X.env.cells.lookup y.1 = some c := fun y hy hf => I2.ok.has y.1 (S.fre y hy hf)
  have hclx : ∀ {x c}, (closL X.env.cells sc.names []).lookup x = some c → X.env.cells.lookup x = some c := fun {x c} e => (closL_lookup _ _ hcells e).elim id fun z => by simp at z
  generalize hcl : closL X.env.cells sc.names [] = cl at hclx ⊢
  refine wpAny_newObj_type (wpAny_newFunctionEnv S.nocell (by intro y hy; simp at hy) (fun h1 hns hsb => ?_) S.kind)
  dsimp only at hns hsb ⊢
  generalize hG : s.heap.push { cls := .type "list", dict := none, data := .seq ([] : List Value).toArray } = G at hns hsb ⊢
  have hC : G.objs.size = s.heap.objs.size + 1 := by rw [← hG, Heap.size_push]
  have old : ∀ b o, s.heap.get? b = some o → h1.get? b = some o := fun b o e =>
    hsb.extBut b o (Nat.ne_of_lt (by rw [hC]; exact Nat.lt_succ_of_lt (Heap.lt_size e))) (Heap.get?_push_of_some _ (hG ▸ Heap.get?_push_of_some _ e))
  have hD1 : h1.get? s.heap.objs.size = some { cls := .type "list", dict := none, data := .seq ([] : List Value).toArray } :=
    hsb.extBut _ _ (by rw [hC]; exact Nat.ne_of_lt (Nat.lt_succ_self _)) (Heap.get?_push_of_some _ (hG ▸ Heap.get?_push_size _ rfl))
  have hDn : H2 s.heap.objs.size = none := I2.hok.fresh (Nat.le_refl _)
  obtain ⟨W, ⟨m0, w0⟩, turn⟩ := q2 s.heap.objs.size hDn
  have hCle : s.heap.objs.size ≤ G.objs.size := by rw [hC]; exact Nat.le_succ _
  have hCD : G.objs.size ≠ s.heap.objs.size := by rw [hC]; exact Nat.succ_ne_self _
  generalize hxe : notedBy (model X.prog X.w) X.A (compEnvC sc cl G.objs.size X.env) (fun e s' => RR (.ref s.heap.objs.size) G.objs.size (.error e) s') = xe
  have fpC : ∀ b ∈ fp, b ≠ G.objs.size := fun b hb => by
    obtain ⟨o, e, _⟩ := T.obj 0 _ st2 b hb
    have := Heap.lt_size e
    exact Nat.ne_of_lt (Nat.lt_of_lt_of_le this hCle)
  have fpS : ∀ b ∈ fp, b ∉ frs X.stack := fun b hb z => by
    obtain ⟨f0, f1, f3, _⟩ := f2 b hb
    rcases List.mem_cons.mp (I2.stkSub b z) with e | e
    · exact f1 e
    · exact f3 e
  have hok : (cxComp X sc cl G.objs.size M s H2 fp xe).Ok := by
    refine ⟨I2.ok.mod, S.kind, I2.ok.glob, I2.ok.blt, hCle, fun x y c e1 e2 => I2.ok.inj x y c (hclx e1) (hclx e2), fun x hx => ?_, (fun x c e _ => absurd (show false = true from e) Bool.false_ne_true), I2.ok.hd, I2.ok.frames, .inl rfl, fun b hb => ⟨fpC b hb, fun x c e => (f2 b hb).2.2.2.2.1 x c (hclx e)⟩,
      I2.bs, Nat.le_trans I2.ok.bsz I2.sz, fun b o e hb => ?_, fpS, I2.stack, I2.stkFree⟩
    · rcases relabel_back (names := sc.names) (env := X.env) hx with q | q
      · rw [← hcl]; exact closL_has _ _ q
      · exact absurd rfl (S.nocell _ q)
    · rcases (f2 b hb).2.2.2.1 with z | z
      · exact I2.ok.noex b o e z
      · exact absurd (Nat.lt_of_lt_of_le (Heap.lt_size e) (Nat.le_trans I2.ok.bsz z)) (Nat.lt_irrefl _)
  have I4 : Inv (cxComp X sc cl G.objs.size M s H2 fp xe) [] (subS ρ σ) (upd H2 s.heap.objs.size (.lst [])) { s with heap := h1, toks := s.toks + ([] : List (Str × Value)).length } := by
    refine ⟨hok, rfl, I2.bare, Un.laid old (Nat.le_refl _) hDn, ⟨_, hns, fun j x v e1 e2 _ => ?_⟩, fun x c e => ?_, ?_, fun x c e => ?_, fun p hp => absurd (show p ∈ ([] : List (Addr × Obj)) from hp) (by simp), I2.hok.laid old (Nat.le_refl _) ⟨by show 0 ≤ sizeLine; decide, [], 0, .nil, hD1⟩, ?_⟩
    · unfold subS at e2
      rw [List.getElem?_map] at e2
      cases q : ρ[j]? with
      | none => rw [q] at e2; cases e2
      | some o =>
        rw [q] at e2
        cases o with
        | none => cases e2
        | some i =>
          have e2' : (σ[i]?).join = some v := Option.some.inj e2
          have e3 : σ[i]? = some (some v) := by
            cases z : σ[i]? with
            | none => rw [z] at e2'; cases e2'
            | some y => rw [z] at e2'; cases y with
              | none => cases e2'
              | some y => cases e2'; rfl
          have hz : (ρ.zip M)[j]? = some (some i, x) := List.getElem?_zip_eq_some.mpr ⟨q, e1⟩
          have hr := S.ren (some i, x) (List.mem_of_getElem? hz)
          obtain ⟨r1, r2⟩ := of_decide_eq_true hr
          obtain ⟨m, hn, hl⟩ := I2.loc
          have hfr := S.fre _ (PySem.mem_of_lookup r2) rfl
          obtain ⟨u, ru, lk⟩ := hl i x v r1 e3 (hfr.elim (fun z => .inr (.inl z)) fun z => .inr (.inr z))
          refine ⟨u, ru, ?_⟩
          rcases lk with ⟨k, _⟩ | ⟨_, c, hcc, cell⟩
          · have k' : X.env.scope.names.lookup x = some .local := k
            rcases hfr with z | z
            · rw [k'] at z; cases z
            · rw [k'] at z; cases z
          · obtain ⟨c', hc'⟩ := closL_has (cells := X.env.cells) sc.names [] (PySem.mem_of_lookup r2)
            rw [hcl] at hc'
            have := hclx hc'
            rw [hcc] at this
            cases this
            obtain ⟨oc, ho, hd⟩ := cell
            exact .inr ⟨relabel_free r2, _, hc', oc, old _ _ ho, hd⟩
    · obtain ⟨v, oc, ho, hd⟩ := I2.cell x c (hclx e)
      exact ⟨v, oc, old _ _ ho, hd⟩
    · show upd H2 s.heap.objs.size (.lst []) G.objs.size = none
      rw [upd_ne hCD]
      exact I2.hok.fresh hCle
    · show upd H2 s.heap.objs.size (.lst []) c = none
      obtain ⟨v, oc, ho, hd⟩ := I2.cell x c (hclx e)
      rw [upd_ne (Nat.ne_of_lt (Heap.lt_size ho))]
      exact I2.freeC x c (hclx e)
    · show (subS ρ σ).length = M.length
      unfold subS
      rw [List.length_map, S.len]
  have st4 : tn 0 h1 := T.keep 0 _ _ st2 fun b _ o e => old b o e
  have fr4 : ∀ b ∈ fp, upd H2 s.heap.objs.size (.lst []) b = none := fun b hb => by
    obtain ⟨o, e, _⟩ := T.obj 0 _ st2 b hb
    rw [upd_ne (Nat.ne_of_lt (Heap.lt_size e))]
    exact (f2 b hb).1
  have stat : ∀ {H' : Hp}, (∀ b ∈ fp, H' b = none) → ∀ b ∈ fp, FpOk (cxComp X sc cl G.objs.size M s H2 fp xe) [] H' b := fun hn b hb =>
    ⟨hn b hb, fpC b hb, fpS b hb, .inl hb, fun x c e => (f2 b hb).2.2.2.2.1 x c (hclx e), fun p hp => absurd (show p ∈ ([] : List (Addr × Obj)) from hp) (by simp)⟩
  have loop : codeAny (model X.prog X.w) X.A (.compLoop (.ListComp elt [⟨tg, iter, ifs, 0⟩] sc pos) 0 (.ref it) (.ref s.heap.objs.size) (compEnvC sc cl G.objs.size X.env)) (RR (.ref s.heap.objs.size) G.objs.size)
      { s with heap := h1, toks := s.toks + ([] : List (Str × Value)).length } := by
    refine comp_loop (fun n s' => ∃ i σ' H', Inv (cxComp X sc cl G.objs.size M s H2 fp xe) [] σ' H' s' ∧ tn i s'.heap ∧ (∀ b ∈ fp, H' b = none) ∧ W i n σ' H') ?_ m0 ⟨0, _, _, I4, st4, fr4, w0⟩
    rw [hxe]
    rintro n s3 ⟨i, σ3, H3, I3, st3, fr3, w3⟩
    rcases turn i n σ3 H3 w3 with ⟨stop, qn⟩ | ⟨go, N, hN, step⟩
    · refine thn (T.done (cxComp X sc cl G.objs.size M s H2 fp xe) rfl rfl rfl hc i [] s3 σ3 H3 xe I3 (stat fr3) st3 stop) fun r s4 ⟨hr, I5⟩ => ?_
      subst hr
      obtain ⟨mC, nC, _⟩ := I5.loc
      have I6 : Inv X pins σ H3 s4 := I2.call' I5.os I5.base I5.hok I5.bare fun b hb => ⟨(f2 b hb).2.2.2.1, (f2 b hb).2.1, (f2 b hb).2.2.2.2.1, (f2 b hb).2.2.2.2.2⟩
      exact hR _ _ H3 s4 mC I6 nC (I2.fpOk hCle I5.free) qn
    · refine thn (T.item (cxComp X sc cl G.objs.size M s H2 fp xe) rfl rfl rfl hc i [] s3 σ3 H3 xe I3 (stat fr3) st3 go) fun r s4 ⟨u, hr, h4⟩ => ?_
      subst hr
      refine thn h4 fun _ s5 ⟨x, H5, I5, r5, y5, st5, fr5⟩ => ?_
      have I5' := I5.pinned (stat fr5) (T.obj _ _ st5)
      refine thn (hg cl G.objs.size s H2 fp xe _ s5 σ3 H5 x u _ I5' r5 (step x H5 y5)) fun _ s6 ⟨σ6, H6, I6, q6⟩ => ?_
      have fin : ∀ {s7 : Shared} {σ7 : St} {H7 : Hp}, Inv (cxComp X sc cl G.objs.size M s H2 fp xe) ([] ++ pinsAt fp s5.heap) σ7 H7 s7 → (∃ m', m' < n ∧ W (i + 1) m' σ7 H7) →
          ∃ m, m < n ∧ ∃ i σ' H', Inv (cxComp X sc cl G.objs.size M s H2 fp xe) [] σ' H' s7 ∧ tn i s7.heap ∧ (∀ b ∈ fp, H' b = none) ∧ W i m σ' H' := fun {s7 σ7 H7} I7 ⟨m', hm, w7⟩ => by
        refine ⟨m', hm, i + 1, σ7, H7, I7.unpinned, T.keep _ _ _ st5 fun b hb o e => (I7.pin (b, o) (List.mem_append_right _ (List.mem_append_right _ (mem_pinsAt hb e)))).1, fun b hb => ?_, w7⟩
        obtain ⟨o, e, d⟩ := T.obj _ _ st5 b hb
        exact (I7.pin (b, o) (List.mem_append_right _ (List.mem_append_right _ (mem_pinsAt hb e)))).2.1
      refine thn (ht cl G.objs.size s H2 fp xe _ s6 σ6 H6 _ I6 q6) fun ok s7 ⟨H7, I7, q7⟩ => ?_
      cases ok with
      | false =>
        rw [if_neg Bool.false_ne_true] at q7 ⊢
        exact fin I7 (hN _ _ q7)
      | true =>
        rw [if_pos rfl] at q7 ⊢
        refine thn (he cl G.objs.size s H2 fp xe _ s7 σ6 H7 _ I7 q7) fun y s8 ⟨yv, H8, I8, r8, ys, hys, hlt, q8⟩ => ?_
        obtain ⟨z, its, k, rv, hl, e⟩ := I8.lstM hys
        refine call_meets F.slot_list_append ⟨_, e, rfl⟩ F.entry_list_append (F.args_list_append_2 _ _) (PySem.list_append _ its.toArray k y (by rw [List.size_toArray]; omega)) ⟨e, ?_⟩
        exact fin (I8.lset (its' := its ++ [y]) hys e (by simp) (rv.append (.cons r8 .nil)) (by rw [List.length_append, List.length_singleton]; omega)) (hN _ _ q8)
  exact codeAny_compStart_list loop (T.self X.A 0 _ _ _ st4 loop)
theorem pe_comp (osc : Scope) (N : List Str) (S : CompScope osc N sc M ρ) (hi : PI X tg iter wi) (hg : ∀ cl C s H fp xe, PG (cxComp X sc cl C M s H fp xe) tg g) (ht : ∀ cl C s H fp xe, PTs (cxComp X sc cl C M s H fp xe) ifs tt)
    (he : ∀ cl C s H fp xe, PE (cxComp X sc cl C M s H fp xe) elt te) (hosc : X.env.scope = osc := by rfl) (hN : X.N = N := by rfl) (hc : X.calm = true := by rfl) (hs : ∀ x, foldedSetIterable iter X.env x = pure x := by intro _; rfl) :
    PE X (.ListComp elt [⟨tg, iter, ifs, 0⟩] sc pos) (tComp wi ρ g tt te) := by
  intro pins s σ H Q I h
  have hcells : ∀ y ∈ sc.names, y.2 = .free → ∃ c, X.env.cells.lookup y.1 = some c := fun y hy hf => I.ok.has y.1 (by show X.env.scope.names.lookup y.1 = _ ∨ X.env.scope.names.lookup y.1 = _; rw [hosc]; exact S.fre y hy hf)
  rw [eval_ListComp]
  refine wpAny_comprehension_free (M := model X.prog X.w) (A := X.A) (E := X.xe) (e := .ListComp elt [⟨tg, iter, ifs, 0⟩] sc pos) rfl hs (closure_pure hcells) S.kind S.own (thn (hi pins s σ H _ I h) fun v s1 h1 => thn h1 fun itv s2 h2 => ?_)
  obtain ⟨_, _, _, _, _, _, I2, _⟩ := id h2
  refine comp_block (RR := fun acc C => compPost (model X.prog X.w) X.A X.xe none (EP X pins σ Q) acc C) osc hosc N hN S hc hg ht he I2 h2 fun D C H' s' mC I' nC fC q => ?_
  refine ⟨mC, nC, fun h' sb => ?_⟩
  obtain ⟨f0, f1, _, f3, f4, f5⟩ := fC
  exact ⟨.ref D, H', I'.turned (t' := s'.toks) (fun b o hb e => (sb.2 b hb).trans e) f0 f1 f3 f4 f5, rfl, q⟩
end
end L2
set_option Elab.async false
set_option linter.all false
set_option maxRecDepth 100000
set_option maxHeartbeats 4000000
namespace L2
open PySem PySem.Spec PyProof.Rows
section
variable {X : Cx} {tg : Expr}
theorem ix_listK {K : PySem.W.Frag} (h : X.K = K) : IxR X (rIxL K) := h ▸ ix_list
theorem ix_tupK {K : PySem.W.Frag} (h : X.K = K) : IxR X (rIxT K) := h ▸ ix_tup
theorem pg_tupK {K : PySem.W.Frag} {pos : Pos} {es : List Expr} {k : Nat} {t : TGs} {n : Nat} (hK : X.K = K) (hc : X.calm = true) (h : PGs X es t) (hn : (assignEach es X.env).length = n := by rfl) (hst : (assignEach es X.env).findIdx? (·.1) = none := by rfl) : PG X (.Tuple es k pos) (gTup K n t) := hK ▸ pg_tup hc h hn hst
end
end L2
set_option Elab.async false
set_option linter.all false
set_option maxRecDepth 100000
set_option maxHeartbeats 4000000
namespace L2
open PySem PySem.Spec PyProof.Rows
end L2
set_option Elab.async false
set_option linter.all false
set_option maxRecDepth 100000
set_option maxHeartbeats 4000000
namespace L2
open PySem PySem.Spec PyProof.Rows
section
variable {X : Cx} {elts : List Expr} {k : Nat} {tpos : Pos}
end
end L2
set_option Elab.async false
set_option linter.all false
set_option maxRecDepth 100000
set_option maxHeartbeats 4000000
namespace L2
open PySem PySem.Spec PyProof.Rows
section
variable {X : Cx}
theorem call_sum (hc : X.calm = true) : CallR X (.builtin "sum") (fun xs H Q => ∃ (p : Addr) (ns : List Int), xs = [.ref p] ∧ SqL X.K H p (ns.map V.int) ∧ Q (.int ns.sum) H) := by
  intro pins s σ H xs us Q I r h
  obtain ⟨p, ns, rfl, hq, q⟩ := h
  obtain ⟨u, rfl, ru⟩ := vals1 r
  cases ru
  obtain ⟨its, r', pl, hz⟩ := I.list hq
  have hi := intsAre_of r'
  obtain ⟨ys, hx⟩ := hi.allInts.items
  have hl' : s.heap.IsList p (intItems ys) := hx ▸ pl.isList
  refine sum_intListG (I.ok.hd hc) hl' fun h' tk t' hk => ?_
  have e1 : ns = ys.toList.map (·.1) := by
    rw [← nums_intItems, ← hx]
    exact (show numsOf its.toArray.toList = ns from hi.numsOf).symm
  have e2 : preSum (numAt ys) ys.size = ns.sum := by
    rw [preSum_eq, List.take_of_length_le (by simp), e1]
  rw [e2]
  exact ⟨.int _, H, I.kept hk, ⟨_, rfl⟩, q⟩
theorem mt_bit_length : MtR X "int.bit_length" (fun x vs H Q => ∃ i : Int, x = .int i ∧ vs = [] ∧ Q (.int ((Builtin.Int.intBits i : Nat) : Int)) H) := by
  intro pins s σ H x xs v us Q I rx rs h
  obtain ⟨i, rfl, rfl, q⟩ := h
  obtain ⟨t, rfl⟩ := rx
  cases rs
  exact call_gives PySem.F.slot_int_bit_length (typeIs_int _ _ _) PySem.F.entry_int_bit_length (PySem.F.args_int_bit_length_1 _) (AutoIntG2.int_bit_length_int_0 i t) ⟨.int _, H, I.tok _, ⟨_, rfl⟩, q⟩
theorem ip_or : PIp X .BitOr (rI0 fun i j => .int (Builtin.bitOr i j)) := fun pins s σ H x y v u Q I r1 r2 h => iop_or pins s σ H x y v u Q I r1 r2 h
end
end L2
set_option Elab.async false
set_option linter.all false
set_option maxRecDepth 100000
set_option maxHeartbeats 4000000
namespace L2
open PySem PySem.Spec PyProof.Rows
section
variable {X : Cx}
theorem vals_of_ints : ∀ {us : List Value} {ns : List Int}, IntsAre us ns → Vals (ns.map V.int) us
  | _, _, .nil => .nil
  | _, _, .cons _ _ h => .cons ⟨_, rfl⟩ (vals_of_ints h)
theorem op_eqT_nil (hu : X.A.units < cLine) : OpR X (compareOp .Eq) (fun x y H Q => ∃ a b xs, x = .ref a ∧ y = .ref b ∧ SqT X.K H a xs ∧ SqT X.K H b [] ∧ Q (.bl xs.isEmpty) H) := by
  intro pins s σ H x y v u Q I rx ry h
  obtain ⟨a, b, xs, rfl, rfl, ha, hb, q⟩ := h
  cases rx
  cases ry
  obtain ⟨its, r1, p1, _⟩ := I.tuple ha
  obtain ⟨its2, r2, p2, _⟩ := I.tuple hb
  cases r2
  refine SeqAt.eq_tupleAt (e := fun _ => true) (show s.heap.IsTuple a its.toArray from p1) (show s.heap.IsTuple b ([] : List Value).toArray from p2) hu (fun j h1 h2 => by simp at h2) ?_
  have e : ((List.range (min its.toArray.size ([] : List Value).toArray.size)).all (fun _ => true) && its.toArray.size == ([] : List Value).toArray.size) = xs.isEmpty := by
    have hl := r1.length
    cases xs with
    | nil => cases r1; rfl
    | cons a r => cases r1; simp
  rw [e]
  exact ⟨.bl _, H, I, rfl, q⟩
end
end L2
set_option Elab.async false
set_option linter.all false
set_option maxRecDepth 100000
set_option maxHeartbeats 4000000
namespace L2
open PySem PySem.Spec PyProof.Rows
section
variable {prog : Program} {w : World} {A : Around} {E : Value → Shared → Prop} {s : Shared}
theorem collect_tup {t : Addr} {o : Obj} {vs : List Value} {n : Nat} {Q : List Value → Shared → Prop} (ho : s.heap.get? t = some o) (hc : o.cls = .type "tuple") (hd : o.data = .seq vs.toArray n) (hz : vs.length ≤ sizeLine)
    (q : Q vs { s with heap := (s.heap.push (seqObj "list" #[] 0)).update s.heap.objs.size (Obj.mapSeq (· ++ vs.toArray)) }) : wpAny (model prog w) A (collect (.ref t)) Q E s := by
  unfold collect
  apply wpAny_bind
  apply wpAny_runValue
  apply codeAny_builtin entry_proto_collect'
  show wpAny _ _ (do again (.builtin "list.__iadd__" ⟨[← newList [], .ref t], []⟩)) _ _ s
  apply wpAny_bind
  refine wpAny_newList ?_ (by decide)
  refine wpAny_pure ⟨Code.quiet_builtin _ (by decide +kernel), ?_⟩
  apply codeAny_builtin entry_list_iadd'
  have ht : (s.heap.push (seqObj "list" #[] 0)).get? t = some o := Heap.get?_push_of_some _ ho
  have hn : (s.heap.push (seqObj "list" #[] 0)).get? s.heap.objs.size = some (seqObj "list" #[] 0) := Heap.get?_push_size _ rfl
  show wpAny _ _ (Builtin.List.listExtendWith (.ref s.heap.objs.size) (.ref t) (.ref s.heap.objs.size)) _ _ { s with heap := s.heap.push (seqObj "list" #[] 0) }
  unfold Builtin.List.listExtendWith
  apply wpAny_bind
  refine wpAny_typeOf (T := "tuple") ⟨o, ht, hc⟩ ?_
  rw [if_pos (by simp)]
  apply wpAny_bind
  refine listItems_at ht hd ?_
  apply wpAny_bind
  refine listItems_at (xs := #[]) (n := 0) hn rfl ?_
  rw [if_neg (by simp)]
  apply wpAny_bind
  refine listUpdate_at (xs := #[]) (n := 0) hn rfl ?_ (Nat.zero_le _) (by simp only [Array.size_append, List.size_toArray]; simp; omega)
  apply wpAny_pure
  refine wpAny_bind (wpAny_load (get?_update_seq (Heap.get?_push_size _ rfl) _) ?_)
  have e : ((#[] : Array Value) ++ vs.toArray).toList = vs := by simp
  show wpAny _ _ (pure ((#[] : Array Value) ++ vs.toArray).toList) Q E _
  rw [e]
  exact wpAny_pure q
theorem sorted_tup {t : Addr} {o : Obj} {vs : List Value} {n : Nat} {ns : List Int} {Q : Value → Shared → Prop} (ho : s.heap.get? t = some o) (hc : o.cls = .type "tuple") (hd : o.data = .seq vs.toArray n) (hi : IntsAre vs ns) (h64 : vs.length < 64)
    (q : ∀ (out : Array Value) (ns' : List Int), IntsAre out.toList ns' → ns'.Perm ns → ns'.Pairwise (· ≤ ·) → Q (.ref (s.heap.objs.size + 1)) { s with heap := sortedAll s.heap vs out }) :
    wpAny (model prog w) A (call (.builtin "sorted") [.ref t]) Q E s := by
  apply Calls.call_function_entry kind_sorted plain_sorted entry_sorted (args_sorted1 _)
  unfold Builtin.«sorted»
  apply wpAny_bind (m := checkCount "sorted" 1 1 _)
  apply wpAny_pure
  apply wpAny_bind
  refine collect_tup ho hc hd (by rw [sizeLine_eq]; omega) ?_
  apply wpAny_bind
  refine wpAny_newList ?_ (by rw [sizeLine_eq]; omega)
  generalize hh : (s.heap.push (seqObj "list" #[] 0)).update s.heap.objs.size (Obj.mapSeq (· ++ vs.toArray)) = h1
  have hsz : h1.objs.size = s.heap.objs.size + 1 := by rw [← hh, Heap.size_update, size_push']
  have hL : (h1.push (seqObj "list" vs.toArray 0)).get? (s.heap.objs.size + 1) = some (seqObj "list" vs.toArray 0) := by
    rw [← hsz]
    exact Heap.get?_push_size _ rfl
  show wpAny _ _ _ _ _ { s with heap := h1.push (seqObj "list" vs.toArray 0) }
  rw [hsz]
  apply wpAny_bind
  apply wpAny_holding
  refine wpAny_call_entry slot_list_sort ⟨_, hL, rfl⟩ entry_list_sort ?_ (args_list_sort _)
  refine list_sort_tree hL hi h64 fun out ns' a1 a2 a3 => ⟨_, rfl, ?_⟩
  have q1 := q out ns' a1 a2 a3
  unfold sortedAll at q1
  rw [hh] at q1
  exact wpAny_pure ⟨_, rfl, q1⟩
end
section
variable {X : Cx}
theorem call_sortedT : CallR X (.builtin "sorted") (fun xs H Q => ∃ (p : Addr) (ns : List Int), xs = [.ref p] ∧ SqT X.K H p (ns.map V.int) ∧ ns.length < 64 ∧ ns.Pairwise (· ≤ ·) ∧ ∀ l, H l = none → Q (.ref l) (upd H l (.lst (ns.map V.int)))) := by
  intro pins s σ H xs us Q I r h
  obtain ⟨p, ns, rfl, hq, h64, hs, q⟩ := h
  obtain ⟨u, rfl, rx⟩ := vals1 r
  cases rx
  obtain ⟨its, r', pl, hz⟩ := I.tuple hq
  have hi := intsAre_of r'
  have hlen := r'.length
  rw [List.length_map] at hlen
  obtain ⟨o, ho, hc, n, hd⟩ := pl
  refine sorted_tup ho hc hd hi (by omega) fun out ns' a1 a2 a3 => ?_
  have e : ns' = ns := PySem.W.ksm_same a2 a3 hs
  subst e
  obtain ⟨ep, he⟩ := sortedAll_at s.heap its out
  have hob : ObjOk X.prog X.w (upd H (s.heap.objs.size + 1) (.lst (ns'.map V.int))) (sortedAll s.heap its out) (s.heap.objs.size + 1) (.lst (ns'.map V.int)) := ⟨hz, out.toList, ep, vals_of_ints a1, by rw [he, Array.toArray_toList]⟩
  exact ⟨.ref (s.heap.objs.size + 1), _, I.laid (t' := s.toks) (fun b o hb => sortedAll_old hb) (Nat.le_succ _) hob, rfl, q _ (I.hok.fresh (Nat.le_succ _))⟩
end
end L2
set_option Elab.async false
set_option linter.all false
set_option maxRecDepth 100000
set_option maxHeartbeats 4000000
namespace L2
open PySem PySem.Spec PyProof.Rows
theorem extend_tup (l b : Addr) (items : Array Value) (n : Nat) (items2 : Array Value) (hlong : ¬ (!items.isEmpty && Builtin.List.listTooLong (items.size + items2.size)) = true) (h1 : items.size ≤ sizeLine) (h2 : items.size + items2.size ≤ sizeLine) :
    Meets (Builtin.«list.extend» ⟨[.ref l, .ref b], []⟩) (fun _ R s => s.heap.get? l = some { cls := .type "list", dict := none, data := .seq items n, slots := #[] } ∧ (∃ o n2, s.heap.get? b = some o ∧ o.cls = .type "tuple" ∧ o.data = .seq items2 n2) ∧
      R (.ok (.ret Value.none)) { s with heap := s.heap.update l (Obj.mapSeq fun x => x ++ items2) }) :=
  .of_wp fun prog w A R s h => by
    obtain ⟨hl, ⟨o, n2, ho, hc, hd⟩, q⟩ := h
    show wpAny _ _ (Builtin.List.listExtendWith (.ref l) (.ref b) .none) _ _ s
    unfold Builtin.List.listExtendWith
    apply wpAny_bind
    refine wpAny_typeOf (T := "tuple") ⟨o, ho, hc⟩ ?_
    rw [if_pos (by simp)]
    apply wpAny_bind
    refine listItems_at ho hd ?_
    apply wpAny_bind
    refine listItems_at hl rfl ?_
    rw [if_neg hlong]
    apply wpAny_bind
    refine listUpdate_at hl rfl ?_ h1 (by rw [Array.size_append]; omega)
    exact wpAny_pure ⟨_, rfl, q⟩
section
variable {X : Cx}
def rExtendT (K : PySem.W.Frag) : V → List V → Hp → VK → Prop := fun x vs H Q => ∃ l b xs zs, x = .ref l ∧ vs = [.ref b] ∧ H l = some (.lst xs) ∧ SqT K H b zs ∧ xs.length + zs.length ≤ sizeLine ∧ Q .non (upd H l (.lst (xs ++ zs)))
theorem mt_extendT : MtM X "list.extend" (rExtendT X.K) := by
  intro pins s σ H x vs v us Q I rx rv h
  obtain ⟨l, b, xs, zs, rfl, rfl, hH, hB, hz, q⟩ := h
  cases rx
  obtain ⟨u, rfl, ru⟩ := rv.one
  cases ru
  obtain ⟨z, its, n, r, hl, e⟩ := I.lstM hH
  obtain ⟨its2, r2, ⟨o, ho, hc, n2, hd⟩, z2⟩ := I.tuple hB
  have l1 := r.length
  have l2 := r2.length
  have hsz : its.toArray.size + its2.toArray.size ≤ sizeLine := by rw [List.size_toArray, List.size_toArray]; omega
  have hlong : ¬ (!its.toArray.isEmpty && Builtin.List.listTooLong (its.toArray.size + its2.toArray.size)) = true := by
    rw [notLongL hsz, Bool.and_false]
    exact Bool.false_ne_true
  refine call_meets PySem.F.slot_list_extend ⟨_, e, rfl⟩ PySem.F.entry_list_extend (PySem.F.args_list_extend_2 _ _) (extend_tup l b its.toArray n its2.toArray hlong (by rw [List.size_toArray]; omega) hsz) ⟨e, ⟨o, n2, ho, hc, hd⟩, ?_⟩
  refine ⟨.non, _, I.lset (its' := its ++ its2) hH e (by simp) (r.append r2) ?_, rfl, q⟩
  rw [List.length_append]
  omega
end
end L2
set_option Elab.async false
set_option linter.all false
set_option maxRecDepth 100000
set_option maxHeartbeats 4000000
namespace L2
open PySem PySem.Spec PyProof.Rows
end L2
set_option Elab.async false
set_option linter.all false
set_option maxRecDepth 100000
set_option maxHeartbeats 4000000
namespace L2
open PySem PySem.Spec PyProof.Rows
section
variable {κ : Type} [DecidableEq κ]
end
abbrev KT (H : Hp) : List (List Key × V) → List (List Key × Addr × Value) → Prop := Paired fun p q => p.1 = q.1 ∧ H q.2.1 = some (.tup (p.1.map kV)) ∧ RelV p.2 q.2.2
section
variable {P : Program} {w : World} {H : Hp} {h : Heap} {a : Addr}
end
section
variable {X : Cx} {pins : List (Addr × Obj)} {σ : St} {H : Hp} {s : Shared} {a : Addr} {y v : V} {u r : Value} {o : Option V} {A : Around} {E : Value → Shared → Prop}
end
section
variable {X : Cx} {pins : List (Addr × Obj)} {σ : St} {H : Hp} {s : Shared} {a : Addr} {kvs : List (Key × V)} {k : Key} {u : Value} {A : Around} {E : Value → Shared → Prop}
end
section
variable {X : Cx} {o i e value : Expr} {pos pos' tpos : Pos} {td ty tv : TE}
end
section
variable {X : Cx} {pos : Pos}
end
abbrev VV : List (V × V) → List (Value × Value) → Prop := Paired fun p q => RelV p.1 q.1 ∧ RelV p.2 q.2
section
variable {X : Cx} {pins : List (Addr × Obj)} {σ : St} {H : Hp} {s : Shared} {a : Addr} {y d : V} {u r : Value} {o : Option V} {A : Around} {E : Value → Shared → Prop}
end
section
variable {X : Cx} {o e f : Expr} {apos cpos : Pos} {td ty tx : TE}
end
section
variable {X : Cx} {pins : List (Addr × Obj)} {σ : St} {H : Hp} {s : Shared} {a : Addr} {kvs : List (Key × V)} {A : Around} {E : Value → Shared → Prop}
end
section
variable {X : Cx} {pins : List (Addr × Obj)} {σ : St} {H : Hp} {s : Shared} {a : Addr} {y : V} {u : Value} {A : Around} {E : Value → Shared → Prop}
end
end L2
namespace L2
open PySem PySem.Spec PyProof.Rows
section
variable {X : Cx}
end
section
variable {κ : Type} [DecidableEq κ]
end
end L2
set_option Elab.async false
set_option linter.all false
set_option maxRecDepth 100000
set_option maxHeartbeats 4000000
namespace L2
open PySem PySem.Spec PyProof.Rows
section
variable {X : Cx}
end
end L2
set_option Elab.async false
set_option linter.all false
set_option maxRecDepth 100000
set_option maxHeartbeats 4000000
namespace L2
open PySem PySem.Spec PyProof.Rows PySem.W
section
variable {prog : Program} {w : World} {A : Around} {E : Value → Shared → Prop} {s : Shared} {T : String} {r d : Addr} {n : Nat} {P : Nat → Value → Prop} {OK : Heap → Prop}
end
section
variable {X : Cx}
end
end L2
set_option Elab.async false
set_option linter.all false
set_option maxRecDepth 100000
set_option maxHeartbeats 4000000
namespace RV
open PySem PySem.Spec PyProof.Rows
end RV
set_option Elab.async false
set_option linter.all false
set_option maxRecDepth 100000
set_option maxHeartbeats 4000000
namespace RV
open PySem PySem.Spec PyProof.Rows
section
variable {prog : Program} {w : World} {A : Around} {E : Value → Shared → Prop} {s : Shared}
end
end RV
set_option Elab.async false
set_option linter.all false
set_option maxRecDepth 100000
set_option maxHeartbeats 4000000
namespace RV
open PySem PySem.Spec PyProof.Rows
section
variable {prog : Program} {w : World} {A : Around} {E : Value → Shared → Prop} {s : Shared}
end
end RV
set_option Elab.async false
set_option linter.all false
set_option maxRecDepth 100000
set_option maxHeartbeats 4000000
namespace RV
open PySem PySem.Spec PyProof.Rows
section
variable {prog : Program} {w : World} {A : Around} {E : Value → Shared → Prop} {s : Shared}
end
end RV
set_option Elab.async false
set_option linter.all false
set_option maxRecDepth 100000
set_option maxHeartbeats 4000000
namespace L2
open PySem PySem.Spec PyProof.Rows PySem.W RV
theorem vals_by : ∀ {xs : List V} {us : List Value}, us.length = xs.length → (∀ (j : Nat) (u : Value), us[j]? = some u → ∃ x, xs[j]? = some x ∧ RelV x u) → Vals xs us
  | [], [], _, _ => .nil
  | [], _ :: _, h, _ => by simp at h
  | _ :: _, [], h, _ => by simp at h
  | x :: xs, u :: us, h, k => by
    obtain ⟨y, e, r⟩ := k 0 u rfl
    have e' : x = y := by simpa using e
    subst e'
    exact .cons r (vals_by (by simpa using h) fun j v hj => by simpa using k (j + 1) v (by simpa using hj))
section
variable {X : Cx} {e : Expr} {te : TE} {pos pos2 p p2 : Pos}
end
end L2
set_option Elab.async false
set_option linter.all false
set_option maxRecDepth 100000
set_option maxHeartbeats 4000000
namespace L2
open PySem PySem.Spec PyProof.Rows
end L2
set_option Elab.async false
set_option linter.all false
set_option maxRecDepth 100000
set_option maxHeartbeats 4000000
namespace L2
open PySem PySem.Spec PyProof.Rows
section
variable {X : Cx}
end
end L2
set_option Elab.async false
set_option linter.all false
set_option maxRecDepth 100000
set_option maxHeartbeats 4000000
namespace L2
open PySem PySem.Spec PyProof.Rows
section
variable {X : Cx}
end
end L2
set_option Elab.async false
set_option linter.all false
set_option maxRecDepth 100000
set_option maxHeartbeats 4000000
namespace L2
open PySem PySem.Spec PyProof.Rows
section
variable {X : Cx} {elts : List Expr} {k : Nat} {tpos : Pos}
end
end L2
set_option Elab.async false
set_option linter.all false
set_option maxRecDepth 100000
set_option maxHeartbeats 4000000
namespace L2
open PySem PySem.Spec PyProof.Rows
section
variable {P : Program} {w : World} {A : Around} {E : Value → Shared → Prop} {s : Shared} {z TI TO i1 i2 l1 l2 : Addr} {xs ys : Array Value} {I1 I2 : Nat → Heap → Prop} {S1 S2 : Heap → Prop}
end
section
variable {X : Cx} {elts : List Expr} {k : Nat} {tpos : Pos}
end
end L2
set_option Elab.async false
set_option linter.all false
set_option maxRecDepth 100000
set_option maxHeartbeats 4000000
namespace L2
open PySem PySem.Spec PyProof.Rows PySem.W
section
variable {P : Program} {w : World} {A : Around} {E : Value → Shared → Prop} {s : Shared} {d : Addr} {es : Array DictEntry} {ep : Nat}
end
section
variable {X : Cx}
end
end L2
set_option Elab.async false
set_option linter.all false
set_option maxRecDepth 100000
set_option maxHeartbeats 4000000
namespace L2
open PySem PySem.Spec PyProof.Rows
section
variable {X : Cx}
theorem op_neL_same (hu : X.A.units < cLine) : OpR X (compareOp .NotEq) (fun x y H Q => ∃ a b xs, x = .ref a ∧ y = .ref b ∧ SqL X.K H a xs ∧ SqL X.K H b xs ∧ xs.all flatV = true ∧ Q (.bl false) H) := by
  intro pins s σ H x y v u Q I rx ry h
  obtain ⟨a, b, xs, rfl, rfl, ha, hb, hf, q⟩ := h
  cases rx
  cases ry
  obtain ⟨its, r1, p1, _⟩ := I.list ha
  obtain ⟨its2, r2, p2, _⟩ := I.list hb
  have l1 := r1.length
  have l2 := r2.length
  refine SeqAt.RcNeAt.lists (e := fun _ => true) p1.isList p2.isList (by simp; omega) hu (same_items r1 r2 hf) X.prog X.w _ _ ?_
  rw [show (!((List.range its.toArray.size).all (fun _ => true))) = false by simp]
  exact ⟨.bl false, H, I, rfl, q⟩
end
end L2
set_option Elab.async false
set_option linter.all false
set_option maxRecDepth 100000
set_option maxHeartbeats 4000000
namespace RG
open PySem PySem.Spec PyProof.Rows
section
variable {prog : Program} {w : World} {A : Around} {E : Value → Shared → Prop} {s : Shared}
variable {I : Addr} {fp : List Addr} {n : Nat} {P : Nat → Value → Prop} {St : Nat → Heap → Prop} {T : String}
end
end RG
set_option Elab.async false
set_option linter.all false
set_option maxRecDepth 100000
set_option maxHeartbeats 4000000
namespace RG
open PySem PySem.Spec PyProof.Rows
section
variable {prog : Program} {w : World} {A : Around} {E : Value → Shared → Prop} {s : Shared}
end
end RG
namespace L2
open PySem PySem.Spec PyProof.Rows PySem.W RG
def rngV (n : Nat) : List V := (List.range n).map fun i => V.int ((i : Nat) : Int)
theorem rngV_at {n i : Nat} (h : i < n) : (rngV n)[i]? = some (.int (i : Int)) := by
  unfold rngV
  rw [List.getElem?_map, List.getElem?_range h]
  rfl
theorem rngV_len (n : Nat) : (rngV n).length = n := by unfold rngV; rw [List.length_map, List.length_range]
section
variable {X : Cx} {e : Expr} {te : TE} {pos pos2 pos3 p p2 p3 : Pos}
theorem ev_range (he : PE X e te) (gG : Gl X "range") (mG : X.mg "range" = none) (hs : starEach [e] X.env = [(false, eval e X.env)] := by rfl)
    {pins : List (Addr × Obj)} {s : Shared} {σ : St} {H : Hp} {R : VK} {Q : Value → Shared → Prop} (I : Inv X pins σ H s) (h : te σ H R) (kr : ∀ x H1, R x H1 → ∃ m : Int, x = .int m)
    (k : ∀ m H1 s1 t u v tk, Inv X pins σ H1 s1 → R (.int m) H1 → Q (.ref s1.heap.objs.size) { s1 with heap := s1.heap.push { cls := .type "range", data := .fields #[.int 0 t, .int m u, .int 1 v] }, toks := tk }) :
    wpAny (model X.prog X.w) X.A (eval (.Call (.Name "range" p3) [e] [] pos3) X.env) Q X.xe s := by
  refine wpAny_Call_Name_kw (ld_blt I gG mG boot_range ?_ (by decide) (by decide))
  refine PyProof.Rows.callWith_type1 ?_ hs (by rfl)
  rw [hs]
  refine Calls.spliced_cons (thn (he pins s σ H _ I h) fun u s1 ⟨x, H1, I1, r1, q1⟩ => ?_)
  obtain ⟨m, rfl⟩ := kr x H1 q1
  obtain ⟨t, rfl⟩ := r1
  exact Calls.spliced_nil (call_range_1 (k m H1 s1 _ _ _ _ I1 q1))
def tLRng (te : TE) : TE := fun σ H Q => te σ H fun x H1 => ∃ n : Nat, x = .int (n : Int) ∧ n ≤ 1000 ∧ ∀ l, H1 l = none → Q (.ref l) (upd H1 l (.lst (rngV n)))
theorem pe_lrng (hc : X.calm = true) (he : PE X e te) (gL : Gl X "list") (mL : X.mg "list" = none) (gG : Gl X "range") (mG : X.mg "range" = none) (hs : starEach [e] X.env = [(false, eval e X.env)] := by rfl) (hs2 : starEach [.Call (.Name "range" p3) [e] [] pos3] X.env = [(false, eval (.Call (.Name "range" p3) [e] [] pos3) X.env)] := by rfl) :
    PE X (.Call (.Name "list" p) [.Call (.Name "range" p3) [e] [] pos3] [] pos) (tLRng te) := by
  intro pins s σ H Q I h
  refine wpAny_Call_Name_kw (ld_blt I gL mL boot_list ?_ (by decide) (by decide))
  refine PyProof.Rows.callWith_type1 ?_ hs2 (by rfl)
  rw [hs2]
  refine Calls.spliced_cons (ev_range he gG mG hs I h (fun x H1 q => by obtain ⟨n, e1, _⟩ := q; exact ⟨_, e1⟩) fun m H1 s1 t u v tk I1 q1 => ?_)
  obtain ⟨n, e1, hn, q⟩ := q1
  have em : m = (n : Int) := V.int.inj e1
  subst em
  refine Calls.spliced_nil ?_
  have hsl : sizeLine = 16777216 := sizeLine_eq
  have hsz : Builtin.Range.rangeSize 0 (n : Int) 1 = (n : Int) := by
    unfold Builtin.Range.rangeSize
    rw [if_pos (by decide)]
    split <;> omega
  have hp : s1.heap.objs.size ≤ (s1.heap.push { cls := .type "range", data := .fields #[.int 0 t, .int (n : Int) u, .int 1 v] }).objs.size := by rw [Heap.size_push]; omega
  refine call_list_range (s := { s1 with heap := s1.heap.push { cls := .type "range", data := .fields #[.int 0 t, .int (n : Int) u, .int 1 v] }, toks := tk }) (I1.ok.hd hc) (Heap.get?_push_size _ rfl) (small_one (by omega) (by omega) (by omega) (by omega)) hsz (by omega) fun h' tk' acc c keep hS hacc => ?_
  have hk : ∀ b w, s1.heap.get? b = some w → h'.get? b = some w := fun b w e => keep b w (Heap.get?_push_of_some _ e)
  have hv : Vals (rngV n) acc.toList := vals_by (by rw [Array.length_toList, hacc.1, rngV_len]) fun j w e => by
    have hj : j < n := by
      rw [← hacc.1, ← Array.length_toList]
      exact (List.getElem?_eq_some_iff.mp e).1
    obtain ⟨t', rfl⟩ := hacc.2 j w (by rw [← Array.getElem?_toList]; exact e)
    refine ⟨_, rngV_at hj, t', ?_⟩
    congr 1
    omega
  exact ⟨.ref _, _, I1.laid (t' := tk') hk hp (show ObjOk X.prog X.w _ h' _ (.lst (rngV n)) from ⟨by rw [rngV_len]; omega, acc.toList, c, hv, by simpa using hS⟩), rfl, q _ (I1.hok.fresh hp)⟩
end
end L2
set_option Elab.async false
set_option linter.all false
set_option maxRecDepth 100000
set_option maxHeartbeats 4000000
namespace L2
open PySem PySem.Spec PyProof.Rows PySem.W RG
open AutoSeq1 (wpAny_loadPart')
section
variable {prog : Program} {w : World} {A : Around} {E : Value → Shared → Prop} {s : Shared}
theorem iadd_rng {R : Result → Shared → Prop} {S r : Addr} {b : Int} {t u v : Tok} {n c₀ : Nat} (hh : A.handled = none) (hr : IsRange s.heap r 0 b 1 t u v) (hsmall : Builtin.Range.small 0 b 1 = true) (hn : Builtin.Range.rangeSize 0 b 1 = n) (hlen : n ≤ 1000) (hS : s.heap.get? S = some { cls := .type "list", data := .seq #[] c₀ })
    (q : ∀ h' tk acc' c', (∀ b o, b ≠ S → s.heap.get? b = some o → h'.get? b = some o) → h'.get? S = some { cls := .type "list", dict := none, data := .seq acc' c', slots := #[] } → ItemsOf (fun i v => ∃ t, v = .int (0 + i * 1) t) acc' n → R (.ok (.ret (.ref S))) { s with heap := h', toks := tk }) :
    codeAny (model prog w) A (.builtin "list.__iadd__" ⟨[.ref S, .ref r], []⟩) R s := by
  apply codeAny_builtin F.entry_list_iadd
  rw [Around.under_plainId F.plain_list_iadd _]
  exact wpAny_extend_range hh hr hsmall hn (by omega) S (.ref S) c₀ hS q
theorem collect_rng {Q : List Value → Shared → Prop} {r : Addr} {b : Int} {t u v : Tok} {n : Nat} (hh : A.handled = none) (hr : IsRange s.heap r 0 b 1 t u v) (hsmall : Builtin.Range.small 0 b 1 = true) (hn : Builtin.Range.rangeSize 0 b 1 = n) (hlen : n ≤ 1000)
    (q : ∀ (h' : Heap) (tk : Nat) (acc : Array Value), (∀ c o, s.heap.get? c = some o → h'.get? c = some o) → ItemsOf (fun i v => ∃ t, v = .int (0 + i * 1) t) acc n → Q acc.toList { s with heap := h', toks := tk }) : wpAny (model prog w) A (collect (.ref r)) Q E s := by
  unfold collect
  apply wpAny_bind
  apply wpAny_runValue
  apply codeAny_builtin F.entry_proto_collect
  rw [Around.under_plainId F.plain_proto_collect _]
  show wpAny _ A.in1 (newList [] >>= fun l => again (.builtin "list.__iadd__" ⟨[l, .ref r], []⟩)) _ _ s
  apply wpAny_bind
  refine wpAny_newObj_type ?_
  refine wpAny_pure ⟨plainId_quiet F.plain_list_iadd _, iadd_rng (c₀ := 0) hh (Heap.get?_push_of_some _ hr) hsmall hn hlen (Heap.get?_push_size _ rfl) fun h' tk acc c' k1 k2 k3 => ?_⟩
  apply wpAny_bind
  refine wpAny_load k2 ?_
  refine wpAny_pure (q h' tk acc (fun c o e => k1 c o (fun z => ?_) (Heap.get?_push_of_some _ e)) k3)
  rw [z] at e
  exact Nat.lt_irrefl _ (Heap.lt_size e)
theorem tuple_new_rng (r : Addr) (b : Int) (t u v : Tok) (n : Nat) (hsmall : Builtin.Range.small 0 b 1 = true) (hn : Builtin.Range.rangeSize 0 b 1 = n) (hlen : n ≤ 1000) :
    Meets (Builtin.«tuple.__new__» ⟨[.type "tuple", .ref r], []⟩) (fun A R s => A.handled = none ∧ IsRange s.heap r 0 b 1 t u v ∧ ∀ (h' : Heap) (tk : Nat) (acc : Array Value), (∀ c o, s.heap.get? c = some o → h'.get? c = some o) → ItemsOf (fun i v => ∃ t, v = .int (0 + i * 1) t) acc n →
      R (.ok (.ret (.ref h'.objs.size))) { s with heap := h'.push { cls := .type "tuple", data := .seq acc }, toks := tk }) :=
  .of_wp fun prog w A R s h => by
    obtain ⟨hh, hr, q⟩ := h
    have hsub := sub_tuple_self
    have hinit := init_tuple_lookup
    have hmh := madeHere_tuple
    have hT : s.TypeIs (.ref r) "range" := ⟨_, hr, rfl⟩
    have hh1 : A.in1.handled = none := hh
    wp_walk using wpAny_typeOf hT, collect_rng hh1 hr hsmall hn hlen
    intro h' tk acc hk hacc
    show wpAny _ _ (Builtin.Tuple.tupleExact acc.toList.toArray >>= fun v => ret v) _ _ _
    unfold Builtin.Tuple.tupleExact
    apply wpAny_bind
    have e : acc.toList.toArray = acc := by simp
    rw [e]
    refine wpAny_newObj_type ?_ (by show acc.size ≤ sizeLine; rw [hacc.1, sizeLine_eq]; omega)
    exact wpAny_pure ⟨_, rfl, q h' tk acc hk hacc⟩
end
section
variable {X : Cx} {e : Expr} {te : TE} {pos pos3 p p3 : Pos}
def tTRng (te : TE) : TE := fun σ H Q => te σ H fun x H1 => ∃ n : Nat, x = .int (n : Int) ∧ n ≤ 1000 ∧ ∀ l, H1 l = none → Q (.ref l) (upd H1 l (.tup (rngV n)))
theorem pe_trng (hc : X.calm = true) (he : PE X e te) (gL : Gl X "tuple") (mL : X.mg "tuple" = none) (gG : Gl X "range") (mG : X.mg "range" = none) (hs : starEach [e] X.env = [(false, eval e X.env)] := by rfl) (hs2 : starEach [.Call (.Name "range" p3) [e] [] pos3] X.env = [(false, eval (.Call (.Name "range" p3) [e] [] pos3) X.env)] := by rfl) :
    PE X (.Call (.Name "tuple" p) [.Call (.Name "range" p3) [e] [] pos3] [] pos) (tTRng te) := by
  intro pins s σ H Q I h
  refine wpAny_Call_Name_kw (ld_blt I gL mL boot_tuple ?_ (by decide) (by decide))
  refine PyProof.Rows.callWith_type1 ?_ hs2 (by rfl)
  rw [hs2]
  refine Calls.spliced_cons (ev_range he gG mG hs I h (fun x H1 q => by obtain ⟨n, e1, _⟩ := q; exact ⟨_, e1⟩) fun m H1 s1 t u v tk I1 q1 => ?_)
  obtain ⟨n, e1, hn, q⟩ := q1
  have em : m = (n : Int) := V.int.inj e1
  subst em
  refine Calls.spliced_nil ?_
  have hsz : Builtin.Range.rangeSize 0 (n : Int) 1 = (n : Int) := by
    unfold Builtin.Range.rangeSize
    rw [if_pos (by decide)]
    split <;> omega
  refine callType_new F.called_tuple (by decide) (F.typeCall_tuple_1 _) (F.newCall_tuple_1 _) (fun obj => F.args_object_init_2 obj _) F.entry_tuple_new (tuple_new_rng _ (n : Int) t u v n (small_one (by omega) (by omega) (by omega) (by omega)) hsz hn)
    ⟨I1.ok.hd hc, Heap.get?_push_size _ rfl, fun h' tk' acc hk hacc => ⟨⟨_, Heap.get?_push_size _ rfl, rfl⟩, ?_⟩⟩
  have hk1 : ∀ b w, s1.heap.get? b = some w → (h'.push { cls := .type "tuple", data := .seq acc }).get? b = some w := fun b w e => Heap.get?_push_of_some _ (hk b w (Heap.get?_push_of_some _ e))
  have hp : s1.heap.objs.size ≤ h'.objs.size := by
    have h1 := Heap.lt_size (hk _ _ (Heap.get?_push_size s1.heap (o := { cls := .type "range", data := .fields #[.int 0 t, .int (n : Int) u, .int 1 v] }) rfl))
    exact Nat.le_of_lt h1
  have hv : Vals (rngV n) acc.toList := vals_by (by rw [Array.length_toList, hacc.1, rngV_len]) fun j w e => by
    have hj : j < n := by
      rw [← hacc.1, ← Array.length_toList]
      exact (List.getElem?_eq_some_iff.mp e).1
    obtain ⟨t', rfl⟩ := hacc.2 j w (by rw [← Array.getElem?_toList]; exact e)
    refine ⟨_, rngV_at hj, t', ?_⟩
    congr 1
    omega
  have hsl : sizeLine = 16777216 := sizeLine_eq
  exact ⟨.ref h'.objs.size, _, I1.laid (t' := tk') hk1 hp (show ObjOk X.prog X.w _ _ _ (.tup (rngV n)) from ⟨by rw [rngV_len]; omega, acc.toList, hv, ⟨_, Heap.get?_push_size _ rfl, rfl, 0, by simp⟩⟩), rfl, q _ (I1.hok.fresh hp)⟩
end
end L2
set_option Elab.async false
set_option linter.all false
set_option maxRecDepth 100000
set_option maxHeartbeats 4000000
namespace L2
open PySem PySem.Spec PyProof.Rows PySem.W
section
variable {X : Cx} {e : Expr} {te : TE} {pos pos3 p p3 : Pos}
end
end L2
set_option Elab.async false
set_option linter.all false
set_option maxRecDepth 100000
set_option maxHeartbeats 4000000
namespace L2
open PySem PySem.Spec PyProof.Rows PySem.W
section
variable {prog : Program} {w : World} {A : Around} {R : Result → Shared → Prop} {it best : Addr} {fp wr : List Addr} {n : Nat} {P : Nat → Value → Prop} {St : Nat → Heap → Prop}
def KeptBut (wr : List Addr) (best : Addr) (h h' : Heap) : Prop := ∀ b o, b ∉ wr → b ≠ best → h.get? b = some o → h'.get? b = some o
theorem KeptBut.trans {wr : List Addr} {best : Addr} {h1 h2 h3 : Heap} (a : KeptBut wr best h1 h2) (b : KeptBut wr best h2 h3) : KeptBut wr best h1 h3 := fun x o m1 m2 e => b x o m1 m2 (a x o m1 m2 e)
structure MinW (prog : Program) (w : World) (A : Around) (it best : Addr) (fp wr : List Addr) (n : Nat) (P : Nat → Value → Prop) (St : Nat → Heap → Prop) (G : Heap → Prop) (lt : Nat → Nat → Bool) : Prop where
  wk : Walks prog w A it fp wr n P St
  out : best ∉ fp
  keep : ∀ h h', KeptBut wr best h h' → G h → G h'
  cmp : ∀ i j x y (s : Shared) (Q E : Value → Shared → Prop), G s.heap → P i x → P j y → Q (.bool (lt i j)) s → wpAny (model prog w) A (richCompare .Lt x y) Q E s
def bestObj (vs : Array Value) (c : Nat) : Obj := { cls := .type "list", dict := none, data := .seq vs c, slots := #[] }
theorem name_min : (toString "min" ++ toString ".loop" : String) = "min.loop" := by decide
theorem min_rest {G : Heap → Prop} {lt : Nat → Nat → Bool} (M : MinW prog w A.in1 it best fp wr n P St G lt) : ∀ (m j c : Nat) (v : Value) (s : Shared), j + 1 + m = n → G s.heap → St (j + 1) s.heap → P (argBest lt j) v → s.heap.get? best = some (bestObj #[v, v] c) →
    (∀ u h' tk, P (argBest lt (n - 1)) u → KeptBut wr best s.heap h' → R (.ok (.ret u)) { s with heap := h', toks := tk }) → codeAny (model prog w) A (.builtin "min.loop" ⟨[.ref it, .none, .ref best], []⟩) R s
  | 0, j, c, v, s, hm, hG, hst, hv, hb, q => by
    have hbw : best ∉ wr := fun z => M.out (M.wk.sub _ z)
    refine codeAny_builtin PySem.F.entry_min_loop ?_
    rw [Around.under_plainId PySem.F.plain_min_loop _]
    show wpAny _ A.in1 (seqItems? (.ref best) >>= _) _ _ s
    refine wpAny_bind (wpAny_seqItems hb rfl ?_)
    show wpAny _ A.in1 (tryCatch (pyNext (.ref it)) _ >>= _) _ _ s
    have en : j + 1 = n := by omega
    refine wpAny_bind (wpAny_tryCatch (M.wk.done s _ _ (by rw [← en]; exact hst) fun h1 tk k1 => ?_))
    show wpAny _ A.in1 (updateSeq best (fun _ => #[]) >>= _) _ _ _
    refine wpAny_bind (wpAny_updateSeq (k1 best _ hbw hb) rfl (wpAny_bind (wpAny_letGo (wpAny_pure ?_))))
    refine q v _ tk (by rw [← en]; exact hv) fun b o m1 m2 e => ?_
    exact (Heap.get?_update_other _ _ (Ne.symm m2)).trans (k1 b o m1 e)
  | m + 1, j, c, v, s, hm, hG, hst, hv, hb, q => by
    have hbw : best ∉ wr := fun z => M.out (M.wk.sub _ z)
    refine codeAny_builtin PySem.F.entry_min_loop ?_
    rw [Around.under_plainId PySem.F.plain_min_loop _]
    show wpAny _ A.in1 (seqItems? (.ref best) >>= _) _ _ s
    refine wpAny_bind (wpAny_seqItems hb rfl ?_)
    show wpAny _ A.in1 (tryCatch (pyNext (.ref it)) _ >>= _) _ _ s
    refine wpAny_bind (wpAny_tryCatch (M.wk.item (j + 1) s _ _ (by omega) hst fun x h1 tk hx st1 k1 => ?_))
    have kb1 : KeptBut wr best s.heap h1 := fun b o m1 _ e => k1 b o m1 e
    have hb1 := k1 best _ hbw hb
    have hG1 := M.keep _ _ kb1 hG
    show wpAny _ A.in1 (tryCatch (holding [x, x] (richCompare .Lt x v >>= _)) _ >>= _) _ _ _
    refine wpAny_bind (wpAny_tryCatch (wpAny_holding (wpAny_bind (M.cmp (j + 1) (argBest lt j) x v _ _ _ hG1 hx hv ?_))))
    refine wpAny_bind (wpAny_holding (wpAny_truthy_bool ?_))
    refine wpAny_bind (wpAny_letGo (wpAny_pure ?_))
    by_cases hl : lt (j + 1) (argBest lt j) = true
    · rw [hl]
      simp only [if_true]
      refine wpAny_bind (wpAny_updateSeq hb1 rfl (wpAny_bind (wpAny_letGo ?_)))
      rw [name_min]
      have k2 : KeptBut wr best h1 (h1.update best fun _ => bestObj #[x, x] (c + 1)) := fun b o m1 m2 e => (Heap.get?_update_other _ _ (Ne.symm m2)).trans e
      refine wpAny_pure ⟨plainId_quiet PySem.F.plain_min_loop _, min_rest M m (j + 1) _ x _ (by omega) (M.keep _ _ ?_ hG1) (M.wk.frame _ _ _ st1 fun b hf o e => ?_) ?_ (Heap.get?_update_self _ hb1 rfl) fun u h2 tk2 hu k3 => ?_⟩
      · exact fun b o m1 m2 e => (Heap.get?_update_other _ _ (Ne.symm m2)).trans e
      · exact (Heap.get?_update_other _ _ (fun z : best = b => M.out (by rw [z]; exact hf))).trans e
      · show P (if lt (j + 1) (argBest lt j) then j + 1 else argBest lt j) x
        rw [hl]
        exact hx
      · exact q u h2 tk2 hu fun b o m1 m2 e => k3 b o m1 m2 ((Heap.get?_update_other _ _ (Ne.symm m2)).trans (kb1 b o m1 m2 e))
    · have hl' : lt (j + 1) (argBest lt j) = false := Bool.not_eq_true _ ▸ hl
      rw [hl']
      simp only [Bool.false_eq_true, if_false]
      refine wpAny_bind (wpAny_letGo ?_)
      rw [name_min]
      refine wpAny_pure ⟨plainId_quiet PySem.F.plain_min_loop _, min_rest M m (j + 1) c v _ (by omega) hG1 st1 ?_ hb1 fun u h2 tk2 hu k3 => q u h2 tk2 hu (kb1.trans k3)⟩
      show P (if lt (j + 1) (argBest lt j) then j + 1 else argBest lt j) v
      rw [hl']
      exact hv
theorem min_first {G : Heap → Prop} {lt : Nat → Nat → Bool} (M : MinW prog w A.in1 it best fp wr n P St G lt) (hn : 0 < n) {c : Nat} {s : Shared} (hG : G s.heap) (hst : St 0 s.heap) (hb : s.heap.get? best = some (bestObj #[] c))
    (q : ∀ u h' tk, P (argBest lt (n - 1)) u → KeptBut wr best s.heap h' → R (.ok (.ret u)) { s with heap := h', toks := tk }) : codeAny (model prog w) A (.builtin "min.loop" ⟨[.ref it, .none, .ref best], []⟩) R s := by
  have hbw : best ∉ wr := fun z => M.out (M.wk.sub _ z)
  refine codeAny_builtin PySem.F.entry_min_loop ?_
  rw [Around.under_plainId PySem.F.plain_min_loop _]
  show wpAny _ A.in1 (seqItems? (.ref best) >>= _) _ _ s
  refine wpAny_bind (wpAny_seqItems hb rfl ?_)
  show wpAny _ A.in1 (tryCatch (pyNext (.ref it)) _ >>= _) _ _ s
  refine wpAny_bind (wpAny_tryCatch (M.wk.item 0 s _ _ hn hst fun x h1 tk hx st1 k1 => ?_))
  have kb1 : KeptBut wr best s.heap h1 := fun b o m1 _ e => k1 b o m1 e
  have hb1 := k1 best _ hbw hb
  show wpAny _ A.in1 (updateSeq best (fun _ => #[x, x]) >>= _) _ _ _
  refine wpAny_bind (wpAny_updateSeq hb1 rfl ?_)
  rw [name_min]
  refine wpAny_pure ⟨plainId_quiet PySem.F.plain_min_loop _, min_rest M (n - 1) 0 _ x _ (by omega) (M.keep _ _ ?_ (M.keep _ _ kb1 hG)) (M.wk.frame _ _ _ st1 fun b hf o e => ?_) hx (Heap.get?_update_self _ hb1 rfl) fun u h2 tk2 hu k3 => ?_⟩
  · exact fun b o m1 m2 e => (Heap.get?_update_other _ _ (Ne.symm m2)).trans e
  · exact (Heap.get?_update_other _ _ (fun z : best = b => M.out (by rw [z]; exact hf))).trans e
  · exact q u h2 tk2 hu fun b o m1 m2 e => k3 b o m1 m2 ((Heap.get?_update_other _ _ (Ne.symm m2)).trans (kb1 b o m1 m2 e))
end
section
variable {X : Cx}
def PrI2 (K : PySem.W.Frag) (H : Hp) (v : V) (n : Int × Int) : Prop := ∃ t, v = .ref t ∧ SqT K H t [.int n.1, .int n.2]
def prI2 (ns : List (Int × Int)) (i j : Nat) : Bool := HT.lexLt [(ns.getD i (0, 0)).1, (ns.getD i (0, 0)).2] [(ns.getD j (0, 0)).1, (ns.getD j (0, 0)).2]
theorem prI2_t {ns : List (Int × Int)} {i j : Nat} (h : prI2 ns i j = true) : (ns.getD i (0, 0)).1 ≤ (ns.getD j (0, 0)).1 := by
  unfold prI2 at h
  rw [HT.lexLt_cons] at h
  split at h
  · omega
  · exact Int.le_of_lt (of_decide_eq_true h)
theorem prI2_f {ns : List (Int × Int)} {i j : Nat} (h : prI2 ns i j = false) : (ns.getD j (0, 0)).1 ≤ (ns.getD i (0, 0)).1 := by
  unfold prI2 at h
  rw [HT.lexLt_cons] at h
  split at h
  · omega
  · exact Int.not_lt.mp (of_decide_eq_false h)
theorem best_le (ns : List (Int × Int)) : ∀ k, argBest (prI2 ns) k ≤ k ∧ ∀ i, i ≤ k → (ns.getD (argBest (prI2 ns) k) (0, 0)).1 ≤ (ns.getD i (0, 0)).1
  | 0 => ⟨Nat.le_refl _, fun i hi => by rw [Nat.le_zero.mp hi]; exact Int.le_refl _⟩
  | k + 1 => by
    obtain ⟨h1, h2⟩ := best_le ns k
    cases hl : prI2 ns (k + 1) (argBest (prI2 ns) k) with
    | true =>
      have e : argBest (prI2 ns) (k + 1) = k + 1 := by simp only [argBest, hl, if_true]
      rw [e]
      refine ⟨Nat.le_refl _, fun i hi => ?_⟩
      have h3 := prI2_t hl
      by_cases z : i = k + 1
      · rw [z]; exact Int.le_refl _
      · exact Int.le_trans h3 (h2 i (by omega))
    | false =>
      have e : argBest (prI2 ns) (k + 1) = argBest (prI2 ns) k := by simp only [argBest, hl, Bool.false_eq_true, if_false]
      rw [e]
      refine ⟨by omega, fun i hi => ?_⟩
      by_cases z : i = k + 1
      · rw [z]; exact prI2_f hl
      · exact h2 i (by omega)
theorem call_minP (hc : X.calm = true) (hu : X.A.units + 1 < cLine) : CallR X (.builtin "min") (fun xs H Q => ∃ (p : Addr) (vs : List V) (ns : List (Int × Int)), xs = [.ref p] ∧ SqL X.K H p vs ∧ Paired (PrI2 X.K H) vs ns ∧ ns ≠ [] ∧
    ∀ (i : Nat) (v : V) (n : Int × Int), vs[i]? = some v → ns[i]? = some n → (∀ m ∈ ns, n.1 ≤ m.1) → Q v H) := by
  intro pins s σ H xs us Q I r h
  obtain ⟨p, vs, ns, rfl, hq, hps, hne, q⟩ := h
  obtain ⟨u, rfl, rx⟩ := vals1 r
  cases rx
  obtain ⟨its, r', pl, hz⟩ := I.list hq
  have hl := pl.isList
  have hlt : p < s.heap.objs.size := by
    obtain ⟨_, e, _⟩ := hl
    exact Heap.lt_size e
  have hln : vs.length = ns.length := Paired.length hps
  have hlv : its.length = vs.length := r'.length.symm
  have hn0 : 0 < ns.length := List.length_pos_iff.mpr hne
  have hg : ∀ (i : Nat) (v : Value), its.toArray[i]? = some v → ∃ x n, vs[i]? = some x ∧ ns[i]? = some n ∧ RelV x v ∧ PrI2 X.K H x n := fun i v e => by
    have e' : its[(i : Nat)]? = some v := by rw [← e]; simp
    obtain ⟨x, hx, rv⟩ := Paired.get?' r' e'
    obtain ⟨n, hn, hp⟩ := Paired.get? hps hx
    exact ⟨x, n, hx, hn, rv, hp⟩
  refine call_function_tree PySem.F.kind_min PySem.F.plain_min PySem.F.entry_min (PySem.F.args_min1 _) ?_
  show wpAny _ X.A.in1 (Builtin.Builtins.bindParams "min" ["key", "default"] 0 ⟨[], []⟩ >>= _) _ _ s
  refine wpAny_bind (wpAny_of_eq (show Builtin.Builtins.bindParams "min" ["key", "default"] 0 ⟨[], []⟩ = pure [none, none] from rfl) ?_)
  refine wpAny_bind (wpAny_pure (wpAny_bind (wpAny_pyIter_list hl ?_)))
  refine wpAny_bind (wpAny_newObj_type ?_)
  rw [name_min]
  have hh : X.A.in1.handled = none := by simp [I.ok.hd hc]
  have hne1 : p ≠ s.heap.objs.size := Nat.ne_of_lt hlt
  refine wpAny_pure ⟨plainId_quiet PySem.F.plain_min_loop _, min_first (c := 0) (G := fun h => ∀ b o, s.heap.get? b = some o → h.get? b = some o) (lt := prI2 ns)
    ⟨Walks.list hh s.heap.objs.size p hne1 its.toArray, ?_, ?_, ?_⟩ (by rw [List.size_toArray]; omega) (fun b o e => Heap.get?_push_of_some _ (Heap.get?_push_of_some _ e)) ⟨⟨_, Heap.get?_push_of_some _ (Heap.get?_push_size _ rfl), rfl, rfl⟩, (hl.push _).push _⟩ (Heap.get?_push_size _ rfl) fun u h' tk hu' k => ?_⟩
  · rw [Heap.size_push]
    simp only [List.mem_cons, List.mem_singleton, List.not_mem_nil, or_false, not_or]
    exact ⟨Nat.ne_of_gt (Nat.lt_succ_self _), Nat.ne_of_gt (Nat.lt_succ_of_lt hlt)⟩
  · intro h h' k hG b o e
    have hb := Heap.lt_size e
    refine k b o ?_ ?_ (hG b o e)
    · rw [List.mem_singleton]; exact Nat.ne_of_lt hb
    · rw [Heap.size_push]; exact Nat.ne_of_lt (Nat.lt_succ_of_lt hb)
  · intro i j x y s' Q' E' hG hx hy q'
    obtain ⟨x1, n1, hx1, hn1, rx1, t1, rfl, st1⟩ := hg i x hx
    obtain ⟨x2, n2, hx2, hn2, rx2, t2, rfl, st2⟩ := hg j y hy
    cases rx1
    cases rx2
    obtain ⟨its1, r1, p1, _⟩ := I.tuple st1
    obtain ⟨its2, r2, p2, _⟩ := I.tuple st2
    have i1 : IntsAre its1.toArray.toList [n1.1, n1.2] := intsAre_of (ns := [n1.1, n1.2]) r1
    have i2 : IntsAre its2.toArray.toList [n2.1, n2.2] := intsAre_of (ns := [n2.1, n2.2]) r2
    have q1 : IsTup s'.heap t1 its1.toArray := by
      obtain ⟨o, e, rest⟩ := p1
      exact ⟨o, hG _ _ e, rest⟩
    have q2 : IsTup s'.heap t2 its2.toArray := by
      obtain ⟨o, e, rest⟩ := p2
      exact ⟨o, hG _ _ e, rest⟩
    have el : prI2 ns i j = HT.lexLt [n1.1, n1.2] [n2.1, n2.2] := by
      unfold prI2
      rw [List.getD_eq_getElem?_getD, List.getD_eq_getElem?_getD, hn1, hn2]
      rfl
    rw [el] at q'
    exact HT.lt_tupInts q1 q2 i1 i2 (by show X.A.in1.units < cLine; simpa using hu) q'
  · obtain ⟨x, n, hx, hn, rx, _⟩ := hg _ u hu'
    have hk : ∀ b o, s.heap.get? b = some o → h'.get? b = some o := fun b o e => by
      have hb := Heap.lt_size e
      refine k b o ?_ ?_ (Heap.get?_push_of_some _ (Heap.get?_push_of_some _ e))
      · rw [List.mem_singleton]; exact Nat.ne_of_lt hb
      · rw [Heap.size_push]; exact Nat.ne_of_lt (Nat.lt_succ_of_lt hb)
    refine ⟨x, H, I.kept hk, rx, q _ x n hx hn fun m hm => ?_⟩
    obtain ⟨i, hi⟩ := List.getElem?_of_mem hm
    have hil := (List.getElem?_eq_some_iff.mp hi).1
    have h1 := (best_le ns (its.toArray.size - 1)).2 i (by rw [List.size_toArray]; omega)
    rw [List.getD_eq_getElem?_getD, List.getD_eq_getElem?_getD, hn, hi] at h1
    exact h1
end
end L2
set_option Elab.async false
set_option linter.all false
set_option maxRecDepth 100000
set_option maxHeartbeats 4000000
namespace L2
open PySem PySem.Spec PyProof.Rows
section
variable {X : Cx}
theorem call_sortedP : CallR X (.builtin "sorted") (fun xs H Q => ∃ (p : Addr) (ns ms : List Int), xs = [.ref p] ∧ SqL X.K H p (ns.map V.int) ∧ ns.length < 64 ∧ ns.Perm ms ∧ ms.Pairwise (· ≤ ·) ∧ ∀ l, H l = none → Q (.ref l) (upd H l (.lst (ms.map V.int)))) := by
  intro pins s σ H xs us Q I r h
  obtain ⟨p, ns, ms, rfl, hq, h64, hp, hs, q⟩ := h
  obtain ⟨u, rfl, rx⟩ := vals1 r
  cases rx
  obtain ⟨its, r', pl, hz⟩ := I.list hq
  have hi := intsAre_of r'
  have hlen := r'.length
  have hpl := hp.length_eq
  rw [List.length_map] at hlen hz
  refine sorted_ints pl.isList hi (by omega) fun out ns' a1 a2 a3 => ?_
  have e : ns' = ms := PySem.W.ksm_same (a2.trans hp) a3 hs
  subst e
  obtain ⟨ep, he⟩ := sortedAll_at s.heap its out
  have hob : ObjOk X.prog X.w (upd H (s.heap.objs.size + 1) (.lst (ns'.map V.int))) (sortedAll s.heap its out) (s.heap.objs.size + 1) (.lst (ns'.map V.int)) := ⟨by rw [List.length_map]; omega, out.toList, ep, vals_of_ints a1, by rw [he, Array.toArray_toList]⟩
  exact ⟨.ref (s.heap.objs.size + 1), _, I.laid (t' := s.toks) (fun b o hb => sortedAll_old hb) (Nat.le_succ _) hob, rfl, q _ (I.hok.fresh (Nat.le_succ _))⟩
def iOr (a b : TI) : TI := fun σ H R => a σ H R ∨ b σ H R
theorem pi_or {tg e : Expr} {a b : TI} (h1 : PI X tg e a) (h2 : PI X tg e b) : PI X tg e (iOr a b) := fun pins s σ H R I h => h.elim (fun z => h1 pins s σ H R I z) (fun z => h2 pins s σ H R I z)
end
end L2
set_option Elab.async false
set_option linter.all false
set_option maxRecDepth 100000
set_option maxHeartbeats 4000000
namespace L2
open PySem PySem.Spec PyProof.Rows
def EqD (K : PySem.W.Frag) (H : Hp) : Nat → V → V → Prop
  | 0, x, y => x = y ∧ flatV x = true
  | n + 1, x, y => (x = y ∧ flatV x = true) ∨ ∃ a b xs ys, x = .ref a ∧ y = .ref b ∧ SqT K H a xs ∧ SqT K H b ys ∧ Paired (EqD K H n) xs ys
theorem val_at {xs : List V} {its : List Value} (r : Vals xs its) {j : Nat} {x : V} (h : xs[j]? = some x) (hj : j < its.toArray.size) : RelV x its.toArray[j] := by
  obtain ⟨w1, g1, rw1⟩ := r.get h
  have : its[j]? = some its.toArray[j] := by simp at hj; simp [hj]
  rw [g1] at this
  rw [← Option.some.inj this]
  exact rw1
theorem eqD_items {X : Cx} {pins : List (Addr × Obj)} {s : Shared} {σ : St} {H : Hp} {A : Around} {n : Nat} {xs ys : List V} {js js2 : List Value} (hP : Paired (EqD X.K H n) xs ys) (q1 : Vals xs js) (q2 : Vals ys js2)
    (ih : ∀ x y v u, EqD X.K H n x y → RelV x v → RelV y u → SeqAt.EqAt A s v u true) : ∀ j (j1 : j < js.toArray.size) (j2 : j < js2.toArray.size), SeqAt.EqAt A s js.toArray[j] js2.toArray[j] true := by
  intro j j1 j2
  have m1 := q1.length
  have m2 := q2.length
  have k1 : j < xs.length := by simp at j1; omega
  obtain ⟨y, hy, hd⟩ := Paired.get? hP (List.getElem?_eq_getElem k1)
  exact ih _ _ _ _ hd (val_at q1 (List.getElem?_eq_getElem k1) j1) (val_at q2 hy j2)
theorem eqD_at {X : Cx} {pins : List (Addr × Obj)} {s : Shared} {σ : St} {H : Hp} (I : Inv X pins σ H s) : ∀ (n : Nat) (A : Around), A.units + n < cLine → ∀ x y v u, EqD X.K H n x y → RelV x v → RelV y u → SeqAt.EqAt A s v u true
  | 0, A, hu, x, y, v, u, h, rx, ry => by
    obtain ⟨rfl, f⟩ := h
    have := eqAt_V (A := A) (s := s) rx ry f f
    rw [eqV_refl f] at this
    exact this
  | n + 1, A, hu, x, y, v, u, h, rx, ry => by
    rcases h with ⟨rfl, f⟩ | ⟨a, b, xs, ys, rfl, rfl, ha, hb, hP⟩
    · have := eqAt_V (A := A) (s := s) rx ry f f
      rw [eqV_refl f] at this
      exact this
    · cases rx
      cases ry
      by_cases e : a = b
      · subst e
        exact SeqAt.EqAt.same _
      · obtain ⟨js, q1, pt1, _⟩ := I.tuple ha
        obtain ⟨js2, q2, pt2, _⟩ := I.tuple hb
        have m1 := q1.length
        have m2 := q2.length
        have hl := Paired.length hP
        have R := SeqAt.RcAt.tuples (A := A) (e := fun _ => true) (show s.heap.IsTuple a js.toArray from pt1) (show s.heap.IsTuple b js2.toArray from pt2) (by omega) (eqD_items (X := X) (pins := pins) (σ := σ) hP q1 q2 (eqD_at I n A.in1 (by show A.units + 1 + n < cLine; omega)))
        have e2 : ((List.range (min js.toArray.size js2.toArray.size)).all (fun _ => true) && js.toArray.size == js2.toArray.size) = true := by
          have : js.toArray.size = js2.toArray.size := by simp; omega
          simp [this]
        rw [e2] at R
        exact SeqAt.EqAt.of_refs e R
theorem op_neD {X : Cx} (n : Nat) (hu : X.A.units + 1 + n < cLine) : OpR X (compareOp .NotEq) (fun x y H Q => ∃ a b xs ys, x = .ref a ∧ y = .ref b ∧ SqT X.K H a xs ∧ SqT X.K H b ys ∧ Paired (EqD X.K H n) xs ys ∧ Q (.bl false) H) := by
  intro pins s σ H x y v u Q I rx ry h
  obtain ⟨a, b, xs, ys, rfl, rfl, ha, hb, hP, q⟩ := h
  cases rx
  cases ry
  obtain ⟨its, r1, p1, _⟩ := I.tuple ha
  obtain ⟨its2, r2, p2, _⟩ := I.tuple hb
  have hl1 := r1.length
  have hl2 := r2.length
  have hl := Paired.length hP
  refine SeqAt.RcNeAt.tuples (e := fun _ => true) (show s.heap.IsTuple a its.toArray from p1) (show s.heap.IsTuple b its2.toArray from p2) (by omega) (eqD_items (X := X) (pins := pins) (σ := σ) hP r1 r2 (eqD_at I n X.A.in1 hu)) X.prog X.w _ _ ?_
  have e : (!((List.range (min its.toArray.size its2.toArray.size)).all (fun _ => true) && its.toArray.size == its2.toArray.size)) = false := by
    have : its.toArray.size = its2.toArray.size := by simp; omega
    simp [this]
  rw [e]
  exact ⟨.bl false, H, I, rfl, q⟩
end L2
set_option Elab.async false
set_option linter.all false
set_option maxRecDepth 100000
set_option maxHeartbeats 4000000
namespace XC
open PySem
abbrev frsOf (l : List Env) : List Addr := l.filterMap (·.frame)
def Tr (h : Heap) (e : Addr) (cls : Value) (dd : Option Addr) (T : Addr) (fl : Value) : Prop :=
  ∃ oe vs oT ts, h.get? e = some oe ∧ oe.cls = cls ∧ oe.dict = dd ∧ oe.data = .fields vs ∧ vs[1]? = some (.ref T) ∧ T ≠ e ∧ h.get? T = some oT ∧ oT.data = .fields ts ∧ ts[3]? = some fl
structure Gone (l : List Env) (e : Addr) (ts : List Addr) (h h' : Heap) : Prop where
  keep : ∀ b o, h.get? b = some o → b ≠ e → b ∉ ts → b ∉ frsOf l → h'.get? b = some o
  slot : ∀ b o, h.get? b = some o → b ∈ frsOf l → ∃ sl, h'.get? b = some { o with slots := sl }
section
variable {M : Model} {A : Around} {E : Value → Shared → Prop} {s : Shared}
theorem frames_free {h base : Heap} {l : List Env} (g : h.FunFrames base l) : ∀ b ∈ frsOf l, base.get? b = none ∧ ∃ o, h.get? b = some o ∧ ∀ vs, o.data ≠ .fields vs := fun b hb => by
  obtain ⟨h1, o, h2, h3⟩ := g.mem hb
  exact ⟨h1, o, h2, h3⟩
theorem dict_map {o : Obj} {f : Array Value → Array Value} {vs : Array Value} (hd : o.data = .fields vs) : (o.mapFields f).dict = o.dict := by
  obtain ⟨c, d, dt, sl⟩ := o
  subst hd
  rfl
theorem entry_ok {base : Heap} {env : Env} {outer : List Env} {L e : Addr} {oe : Obj} {vs : Array Value} {head : Value} {had : Bool} {Q : Unit → Shared → Prop}
    (hfr : A.frames = some (env :: outer)) (hl : s.heap.FunFrames base (env :: outer)) (hf : env.frame = some L) (he : s.heap.get? e = some oe) (hd : oe.data = .fields vs) (hz : 1 < vs.size)
    (h : ∀ h' T, Gone (env :: outer) e [] s.heap h' → s.heap.get? T = none → Tr h' e oe.cls oe.dict T (rawInt L) → Q () { s with heap := h' }) :
    wpAny M A (do let a ← frameOf env; let p ← entryPlaceOf L had; let b ← EntryCells.newEntry head a .none (rawInt L) .none p; setField (.ref e) 1 b) Q E s := by
  have ne : e ∉ frsOf (env :: outer) := fun z => by
    obtain ⟨_, o, q, n⟩ := frames_free hl e z
    rw [he] at q
    cases q
    exact n vs hd
  refine wpAny_bind (wpAny_frameOf_fun hfr hl hf fun g S => wpAny_bind (wpAny_entryPlaceOf fun p hp => ?_))
  unfold EntryCells.newEntry newFields
  refine wpAny_bind (wpAny_newObj_type ?_ (hp.sizeOk5 _ _ _ _ _))
  generalize ht : ([head, Value.ref L, Value.none, rawInt L, Value.none] ++ (if p.isEmpty then List.replicate 6 Value.none else p)).toArray = tv
  have h3 : tv[3]? = some (rawInt L) := by rw [← ht]; simp
  have g1 : g.get? e = some oe := (S.2.1 e ne).trans he
  have te : g.objs.size ≠ e := Nat.ne_of_gt (Heap.lt_size g1)
  have d2 := Obj.data_mapFields hd (·.setIfInBounds 1 (Value.ref g.objs.size))
  have g2 := Heap.get?_push_of_some { cls := .type "traceback", dict := none, data := .fields tv } g1
  refine wpAny_setField g2 hd hz (h _ g.objs.size ⟨fun b o q z _ w => ?_, fun b o q w => ?_⟩ (Heap.get?_none_of_le (by rw [S.1]; exact Nat.le_refl _)) ?_)
  · rw [Heap.get?_update_other _ _ (Ne.symm z)]
    exact Heap.get?_push_of_some _ ((S.2.1 b w).trans q)
  · obtain ⟨sl, q2⟩ := S.2.2 b o q
    have z : b ≠ e := fun z => ne (z ▸ w)
    exact ⟨sl, by rw [Heap.get?_update_other _ _ (Ne.symm z)]; exact Heap.get?_push_of_some _ q2⟩
  · refine ⟨_, _, { cls := .type "traceback", dict := none, data := .fields tv }, tv, Heap.get?_update_self _ g2 (Obj.isFreed_of_fields d2), Obj.cls_mapFields _ _, dict_map hd, d2, ?_, te, ?_, rfl, h3⟩
    · rw [Array.getElem?_setIfInBounds_self, if_pos hz]
    · rw [Heap.get?_update_other _ _ (Ne.symm te)]
      exact Heap.get?_push_size _ rfl
theorem note_first {base : Heap} {env : Env} {outer : List Env} {L e : Addr} {oe : Obj} {vs : Array Value} {Q : Unit → Shared → Prop}
    (hfr : A.frames = some (env :: outer)) (hl : s.heap.FunFrames base (env :: outer)) (hf : env.frame = some L) (he : s.heap.get? e = some oe) (hd : oe.data = .fields vs) (h1 : vs[1]? = some .none)
    (h : ∀ h' T, Gone (env :: outer) e [] s.heap h' → s.heap.get? T = none → Tr h' e oe.cls oe.dict T (rawInt L) → Q () { s with heap := h' }) : wpAny M A (noteFrame (.ref e) env) Q E s := by
  unfold noteFrame
  simp only [hf]
  refine wpAny_bind (wpAny_field he hd h1 ?_)
  rw [if_neg (by decide)]
  exact entry_ok hfr hl hf he hd (Array.getElem?_eq_some_iff.mp h1).1 h
theorem flight_at {h : Heap} {e T : Addr} {cls fl x : Value} {dd : Option Addr} (ht : Tr h e cls dd T fl) :
    (∀ b o, b ≠ T → h.get? b = some o → (h.update T (Obj.mapFields (·.setIfInBounds 3 x))).get? b = some o) ∧ Tr (h.update T (Obj.mapFields (·.setIfInBounds 3 x))) e cls dd T x := by
  obtain ⟨oe, vs, oT, ts, h1, h2, h2', h3, h4, h5, h6, h7, h8⟩ := ht
  have hz : 3 < ts.size := (Array.getElem?_eq_some_iff.mp h8).1
  have d2 := Obj.data_mapFields h7 (·.setIfInBounds 3 x)
  refine ⟨fun b o z q => by rw [Heap.get?_update_other _ _ (Ne.symm z)]; exact q, oe, vs, _, _, ?_, h2, h2', h3, h4, h5, Heap.get?_update_self _ h6 (Obj.isFreed_of_fields d2), d2, ?_⟩
  · rw [Heap.get?_update_other _ _ h5]
    exact h1
  · rw [Array.getElem?_setIfInBounds_self, if_pos hz]
theorem note_next {base : Heap} {env : Env} {outer : List Env} {L e T : Addr} {cls : Value} {dd : Option Addr} {Q : Unit → Shared → Prop}
    (hfr : A.frames = some (env :: outer)) (hl : s.heap.FunFrames base (env :: outer)) (hf : env.frame = some L) (ht : Tr s.heap e cls dd T .none)
    (h : ∀ h' T', Gone (env :: outer) e [T] s.heap h' → s.heap.get? T' = none → Tr h' e cls dd T' (rawInt L) → Q () { s with heap := h' }) : wpAny M A (noteFrame (.ref e) env) Q E s := by
  obtain ⟨k1, oe, vs, oT, ts, a1, a2, a2', a3, a4, a5, a6, a7, a8⟩ := flight_at (x := .none) ht
  obtain ⟨oe0, vs0, oT0, ts0, h1, h2, h2', h3, h4, h5, h6, h7, h8⟩ := ht
  unfold noteFrame
  simp only [hf]
  refine wpAny_bind (wpAny_field h1 h3 h4 ?_)
  rw [if_pos (show (Value.ref T != Value.none) = true from by simp)]
  refine wpAny_bind (wpAny_field h6 h7 h8 ?_)
  rw [if_neg (show ¬ ((Value.none == rawInt L) = true) from by simp [rawInt])]
  have nT : T ∉ frsOf (env :: outer) := fun z => by
    obtain ⟨_, o, q, n⟩ := frames_free hl T z
    rw [h6] at q
    cases q
    exact n ts0 h7
  have nt : ∀ b o, s.heap.get? b = some o → (∀ vs, o.data ≠ .fields vs) → b ≠ T := fun b o q n z => by
    rw [z, h6] at q
    cases q
    exact n ts0 h7
  refine wpAny_bind (wpAny_setField h6 h7 (Array.getElem?_eq_some_iff.mp h8).1 ?_)
  refine entry_ok hfr (hl.of_keeps fun b o q n => ⟨o, k1 b o (nt b o q n) q, rfl⟩) hf a1 a3 (Array.getElem?_eq_some_iff.mp a4).1 fun h' T' G n t => ?_
  refine h h' T' ⟨fun b o q z w u => G.keep b o (k1 b o (fun z => w (by rw [z]; exact List.mem_singleton_self _)) q) z (by simp) u, fun b o q w => G.slot b o (k1 b o (fun z => nT (z ▸ w)) q) w⟩ ?_ (by rw [← a2, ← a2']; exact t)
  cases q : s.heap.get? T' with
  | none => rfl
  | some o =>
    by_cases z : T' = T
    · rw [z, a6] at n
      cases n
    · rw [show (s.heap.update T (Obj.mapFields (·.setIfInBounds 3 Value.none))).get? T' = some o from k1 T' o z q] at n
      cases n
theorem fly_off {e T : Addr} {cls fl : Value} {dd : Option Addr} {Q : Unit → Shared → Prop} (ht : Tr s.heap e cls dd T fl)
    (h : ∀ h', (∀ b o, b ≠ T → s.heap.get? b = some o → h'.get? b = some o) → Tr h' e cls dd T .none → Q () { s with heap := h' }) : wpAny M A (setFlight (.ref e) none) Q E s := by
  obtain ⟨k, t⟩ := flight_at (x := .none) ht
  obtain ⟨oe, vs, oT, ts, h1, h2, h2', h3, h4, h5, h6, h7, h8⟩ := ht
  unfold setFlight
  refine wpAny_bind (wpAny_field h1 h3 h4 ?_)
  rw [if_pos (show (Value.ref T != Value.none) = true from by simp)]
  exact wpAny_setField h6 h7 (Array.getElem?_eq_some_iff.mp h8).1 (h _ k t)
theorem Gone.off {l : List Env} {e T : Addr} {ts : List Addr} {h h1 h2 : Heap} (G : Gone l e ts h h1) (k : ∀ b o, b ≠ T → h1.get? b = some o → h2.get? b = some o) (hT : h.get? T = none ∨ T ∈ ts) (nT : T ∉ frsOf l) : Gone l e ts h h2 := by
  refine ⟨fun b o q z w u => k b o (fun y => ?_) (G.keep b o q z w u), fun b o q w => ?_⟩
  · rcases hT with y2 | y2
    · rw [y, y2] at q; cases q
    · exact w (y ▸ y2)
  · obtain ⟨sl, q2⟩ := G.slot b o q w
    exact ⟨sl, k b _ (fun y => nT (y ▸ w)) q2⟩
theorem new_notIn {h base : Heap} {l : List Env} {T : Addr} (n : h.get? T = none) (g : h.FunFrames base l) : T ∉ frsOf l := fun z => by
  obtain ⟨_, o, q, _⟩ := frames_free g T z
  rw [n] at q
  cases q
theorem leave_first {base : Heap} {env : Env} {outer : List Env} {L e : Addr} {oe : Obj} {vs : Array Value} {Q : Unit → Shared → Prop}
    (hfr : A.frames = some (env :: outer)) (hl : s.heap.FunFrames base (env :: outer)) (hf : env.frame = some L) (he : s.heap.get? e = some oe) (hd : oe.data = .fields vs) (h1 : vs[1]? = some .none)
    (h : ∀ h' T, Gone (env :: outer) e [] s.heap h' → s.heap.get? T = none → Tr h' e oe.cls oe.dict T .none → Q () { s with heap := h' }) : wpAny M A (leaving env (.ref e)) Q E s := by
  unfold leaving
  exact wpAny_bind (note_first hfr hl hf he hd h1 fun h' T G n t => fly_off t fun h2 k t2 => h h2 T (G.off k (.inl n) (new_notIn n hl)) n t2)
theorem leave_next {base : Heap} {env : Env} {outer : List Env} {L e T : Addr} {cls : Value} {dd : Option Addr} {Q : Unit → Shared → Prop}
    (hfr : A.frames = some (env :: outer)) (hl : s.heap.FunFrames base (env :: outer)) (hf : env.frame = some L) (ht : Tr s.heap e cls dd T .none)
    (h : ∀ h' T', Gone (env :: outer) e [T] s.heap h' → s.heap.get? T' = none → Tr h' e cls dd T' .none → Q () { s with heap := h' }) : wpAny M A (leaving env (.ref e)) Q E s := by
  unfold leaving
  exact wpAny_bind (note_next hfr hl hf ht fun h' T' G n t => fly_off t fun h2 k t2 => h h2 T' (G.off k (.inl n) (new_notIn n hl)) n t2)
end
end XC
set_option Elab.async false
set_option linter.all false
set_option maxRecDepth 100000
set_option maxHeartbeats 4000000
namespace L2
open PySem PySem.Spec PyProof.Rows XC
def CXe (P : Program) (w : World) : CXT := fun outer H s E v s' => ∃ (a T : Addr) (cls : Value) (dd : Option Addr) (H' : Hp), v = .ref a ∧ s'.os = s.os ∧ AllBare s'.gens ∧ Un (frs outer) [] H H' s.heap s'.heap ∧ HOk P w H' s'.heap ∧ s.heap.get? a = none ∧ H' a = none ∧ Tr s'.heap a cls dd T .none ∧ s.heap.get? T = none ∧ H' T = none ∧ E cls dd H'
theorem HOk.gone {P : Program} {w : World} {h h' : Heap} {l : List Env} {e : Addr} {ts : List Addr} {H : Hp} (ok : HOk P w H h) (G : Gone l e ts h h') (he : H e = none) (hts : ∀ b ∈ ts, H b = none) (hf : ∀ b ∈ frs l, H b = none) : HOk P w H h' := fun b o q =>
  (ok b o q).stay (fun c u hc r => by
    have hH : H c ≠ none := by
      rcases hc with z | z
      · rw [z, q]; simp
      · rw [z]; simp
    exact G.keep c u r (fun z => hH (by rw [z]; exact he)) (fun z => hH (hts c z)) (fun z => hH (hf c z))) (fun _ q => q) fun _ _ q => q
theorem Un.gone {h0 h h' : Heap} {env : Env} {outer : List Env} {e : Addr} {ts : List Addr} {H0 H : Hp} (u : Un (frs outer) [] H0 H h0 h) (G : Gone (env :: outer) e ts h h') (he : h0.get? e = none) (hts : ∀ b ∈ ts, h0.get? b = none) (hF : ∀ L, env.frame = some L → h0.get? L = none) (hu : ∀ b ∈ frs outer, H0 b = none) : Un (frs outer) [] H0 H h0 h' := by
  have hfr : ∀ b o, h0.get? b = some o → b ∉ frs outer → b ∉ frsOf (env :: outer) := fun b o hb hn hm => by
    have hm : b ∈ (env :: outer).filterMap (·.frame) := hm
    rw [List.filterMap_cons] at hm
    cases ef : env.frame with
    | none => rw [ef] at hm; exact hn hm
    | some L =>
      rw [ef] at hm
      rcases List.mem_cons.mp hm with z | z
      · rw [z, hF L ef] at hb; cases hb
      · exact hn z
  have hin : ∀ b, b ∈ frs outer → b ∈ frsOf (env :: outer) := fun b hb => by
    show b ∈ (env :: outer).filterMap (·.frame)
    rw [List.filterMap_cons]
    cases env.frame with
    | none => exact hb
    | some L => exact List.mem_cons_of_mem _ hb
  have hne : ∀ b o, h0.get? b = some o → b ≠ e := fun b o hb z => by rw [z, he] at hb; cases hb
  have hnt : ∀ b o, h0.get? b = some o → b ∉ ts := fun b o hb z => by rw [hts b z] at hb; cases hb
  refine ⟨fun b o q n hf hx => G.keep b o (u.keep b o q n hf hx) (hne b o q) (hnt b o q) (hfr b o q hf), fun b o q n hf hx => ?_, u.free, fun b o q hx => ?_, u.tups, u.frzs, u.tbls⟩
  · obtain ⟨sl, h1⟩ := u.slot b o q n hf hx
    obtain ⟨sl', h2⟩ := G.slot b _ h1 (hin b hf)
    exact ⟨sl', h2⟩
  · by_cases hf : b ∈ frs outer
    · obtain ⟨sl, h1⟩ := u.slot b o q (hu b hf) hf hx
      obtain ⟨sl', h2⟩ := G.slot b _ h1 (hin b hf)
      exact ⟨_, h2⟩
    · obtain ⟨o', h1⟩ := u.there b o q hx
      exact ⟨o', G.keep b o' h1 (hne b o q) (hnt b o q) (hfr b o q hf)⟩
theorem ObjOk.there {P : Program} {w : World} {H : Hp} {h : Heap} {a : Addr} {o : HO} (x : ObjOk P w H h a o) : ∃ u, h.get? a = some u := by
  cases o with
  | lst xs => obtain ⟨_, _, _, _, e⟩ := x; exact ⟨_, e⟩
  | tup xs => obtain ⟨_, _, _, o, e, _⟩ := x; exact ⟨_, e⟩
  | dK kvs => obtain ⟨_, _, _, _, o, _, _, e, _⟩ := x; exact ⟨_, e⟩
  | dT kvs => obtain ⟨_, _, _, _, o, _, _, e, _⟩ := x; exact ⟨_, e⟩
  | set S n => obtain ⟨o, _, _, _, e, _⟩ := x; exact ⟨_, e⟩
  | ins C dx fs => obtain ⟨_, _, _, e, _⟩ := x; exact ⟨_, e⟩
  | own y => obtain ⟨_, e⟩ := x; exact ⟨_, e⟩
  | xd fs => obtain ⟨_, ⟨_, _, _, e, _⟩, _⟩ := x; exact ⟨_, e⟩
  | rng lo hi => obtain ⟨_, _, _, e⟩ := x; exact ⟨_, e⟩
  | frz ob u => obtain ⟨e, _⟩ := x; exact ⟨_, e⟩
  | tbl ps => exact ⟨_, x⟩
  | met f y => exact ⟨_, x⟩
  | ext φ => obtain ⟨_, ⟨_, e⟩, _⟩ := x; exact ⟨_, e⟩
theorem HOk.un_at {P : Program} {w : World} {h : Heap} {H : Hp} {a : Addr} (ok : HOk P w H h) (n : h.get? a = none) : H a = none := by
  cases q : H a with
  | none => rfl
  | some o => obtain ⟨u, e⟩ := (ok a o q).there; rw [n] at e; cases e
section
variable {P : Program} {w : World} {K : PySem.W.Frag} {mg : Str → Option Value} {base : Heap} {N : List Str} {qual : Str} {scope : Scope} {f : Addr} {cd : Value} {A : Around} {outer : List Env} {s : Shared} {H : Hp} {E : XK} {pins : List (Addr × Obj)} {σ : St} {H' : Hp} {s' : Shared}
theorem loc_new : ∀ L, (envOfC qual scope s.heap.objs.size f cd).frame = some L → s.heap.get? L = none := fun L e => by
  have e2 : L = s.heap.objs.size := (Option.some.inj e).symm
  rw [e2]
  cases q : s.heap.get? s.heap.objs.size with
  | none => rfl
  | some o => exact absurd (Heap.lt_size q) (Nat.lt_irrefl _)
theorem Inv.up {X : Cx} {s1 : Shared} {H1 : Hp} (I : Inv X pins σ H1 s1) (hx : X.ex = []) {b : Addr} (n : s1.heap.get? b = none) : X.s₀.heap.get? b = none := by
  cases q : X.s₀.heap.get? b with
  | none => rfl
  | some o =>
    obtain ⟨o', z⟩ := I.base.there b o q (by rw [hx]; intro z; cases z)
    rw [n] at z
    cases z
theorem fly_first (I : Inv (cxOf (CXe P w) P w K mg base N qual scope f cd A outer s H E) pins σ H' s') {a : Addr} {oe : Obj} {vs : Array Value} (he : s'.heap.get? a = some oe) (hd : oe.data = .fields vs) (h1 : vs[1]? = some .none) (new : s.heap.get? a = none) (fr : H' a = none) (hE : E oe.cls oe.dict H') :
    (cxOf (CXe P w) P w K mg base N qual scope f cd A outer s H E).xe (.ref a) s' := by
  refine leave_first (base := base) (L := s.heap.objs.size) I.ok.frames I.stack rfl he hd h1 fun h' T G hT ht => ?_
  exact ⟨a, T, oe.cls, oe.dict, H', rfl, I.os, I.bare, Un.gone I.base G new (fun b z => by cases z) loc_new I.ok.frf, HOk.gone I.hok G fr (fun b z => by cases z) I.stkFree, new, fr, ht, I.up rfl hT, HOk.un_at I.hok hT, hE⟩
theorem fly_next (I : Inv (cxOf (CXe P w) P w K mg base N qual scope f cd A outer s H E) pins σ H' s') {a T : Addr} {cls : Value} {dd : Option Addr} (ht : Tr s'.heap a cls dd T .none) (new : s.heap.get? a = none) (newT : s.heap.get? T = none) (fr : H' a = none) (frT : H' T = none) (hE : E cls dd H') :
    (cxOf (CXe P w) P w K mg base N qual scope f cd A outer s H E).xe (.ref a) s' := by
  refine leave_next (base := base) (L := s.heap.objs.size) I.ok.frames I.stack rfl ht fun h' T' G hT' ht' => ?_
  exact ⟨a, T', cls, dd, H', rfl, I.os, I.bare, Un.gone I.base G new (fun b z => by rw [List.mem_singleton.mp z]; exact newT) loc_new I.ok.frf, HOk.gone I.hok G fr (fun b z => by rw [List.mem_singleton.mp z]; exact frT) I.stkFree, new, fr, ht', I.up rfl hT', HOk.un_at I.hok hT', hE⟩
theorem passE : Passes (CXe P w) (cxOf (CXe P w) P w K mg base N qual scope f cd A outer s H E) E := fun pins σ H1 s1 v s2 I h => by
  obtain ⟨a, T, cls, dd, H2, rfl, os, bare, un, hok, new, fr, ht, newT, frT, hE⟩ := h
  have I2 := Inv.call' (ch := []) I os un hok bare (fun b z => by cases z)
  exact fly_next I2 ht (I.up rfl new) (I.up rfl newT) fr frT hE
end
structure ClE (P : Program) (w : World) (K : PySem.W.Frag) (mg : Str → Option Value) (base : Heap) (k : Nat) (x : Str) (ps : List Str) (sp : Sp) : Prop where
  ex : ∃ f fd, FnOk P w K mg base (CXe P w) k f fd ps sp ∧ mg x = some (.ref f) ∧ PySem.W.keepIn K (.ref f) = true ∧ Binds K fd ps []
theorem pe_fnE {X : Cx} {j k : Nat} {x : Str} {ps : List Str} {sp : Sp} {E : XK} {e : Expr} {es : List Expr} {t : TA} {p pos : Pos} (C : ClE X.prog X.w X.K X.mg X.base j x ps sp) (hx : Passes (CXe X.prog X.w) X E) (hr : Room k X.A) (hg : Gl X x) (ha : PA X (e :: es) t) (hjk : j ≤ k := by decide)
    (hdb : (x == ("__debug__" : Str)) = false := by decide) (he : starEach (e :: es) X.env = (false, eval e X.env) :: starEach es X.env := by rfl) (hpl : (backTo pos (starEach es X.env)).any (·.1) = false := by rfl) :
    PE X (.Call (.Name x p) (e :: es) [] pos) (tCall sp [] E t) := by
  obtain ⟨f, fd, F, hm, hk, hb⟩ := C.ex
  exact pe_call F (hr.mono hjk) hg hm hk hb .nil hx ha hdb he hpl
theorem ClE.of {P : Program} {w : World} {K : PySem.W.Frag} {mg : Str → Option Value} {base : Heap} {x : Str} {st : Stmt} {N ps : List Str} {k : Nat} {sp : Sp} (T : HasDef K mg x st) (S : FnScope N ps (defScope st)) (len : ∀ vs H Q E, sp vs H Q E → vs.length = ps.length)
    (hb : ∀ (kV doc pm : Value) (an : Option Addr) (cdv ct : Value) (us : List Value), us.length = ps.length → bindArgs (PySem.W.fnOf x x (defArgs st) (defBody st) (defScope st) .none kV doc pm an cdv ct) ⟨us, []⟩ = pure (ps.zip us))
    (hbody : ∀ (f : Addr) (cdv : Value) (A : Around) (outer : List Env) (s : Shared) (H : Hp) (vs : List V) (Q : VK) (E : XK), Room k (A.deeper (envOfC x (defScope st) s.heap.objs.size f cdv)) → sp vs H Q E →
      ∃ t, PSs (cxOf (CXe P w) P w K mg base N x (defScope st) f cdv A outer s H E) (defBody st) t ∧ t { nx := fun _ H' => Q .non H', rt := Q } (start N vs) H) : ClE P w K mg base (k + 1) x ps sp := by
  obtain ⟨f, fd, F, m⟩ := T
  obtain ⟨oc, od, kV, doc, pm, an, cdv, ct, osl, rfl, lk, hcd⟩ := F.ex
  exact ⟨f, _, fn_of lk hcd S len fun A outer s H vs Q E hr hsp => hbody f cdv A outer s H vs Q E hr hsp, m, F.kp, F.binds hb⟩
end L2
set_option Elab.async false
set_option linter.all false
set_option maxRecDepth 100000
set_option maxHeartbeats 4000000
namespace L2
open PySem PySem.Spec PyProof.Rows XC
structure Fr1 (X : Cx) (pins : List (Addr × Obj)) (b : Addr) : Prop where
  s0 : X.s₀.heap.get? b = none
  loc : b ≠ X.env.locals
  cel : ∀ x c, X.env.cells.lookup x = some c → c ≠ b
  pin : ∀ p ∈ X.pn ++ pins, p.1 ≠ b
section
variable {X : Cx} {pins : List (Addr × Obj)} {σ : St} {H H' : Hp} {s : Shared} {h' : Heap} {a : Addr} {ts : List Addr}
theorem Inv.fr1 (I : Inv X pins σ H s) (hx : X.ex = []) {b : Addr} (n : s.heap.get? b = none) : Fr1 X pins b := by
  refine ⟨I.up hx n, fun z => ?_, fun x c e z => ?_, fun p hp z => ?_⟩
  · obtain ⟨m, ⟨o, _, _, ho, _⟩, _⟩ := I.loc
    rw [← z, n] at ho
    cases ho
  · obtain ⟨v, o, ho, _⟩ := I.cell x c e
    rw [z, n] at ho
    cases ho
  · have q := (I.pin p hp).1
    rw [z, n] at q
    cases q
theorem Inv.flown {t' : Nat} (I : Inv X pins σ H s) (hx : X.ex = []) (hs : X.stack = X.env :: X.outer) (hf : X.env.frame = some X.env.locals) (G : Gone X.stack a ts s.heap h') (ha : Fr1 X pins a) (ht : ∀ b ∈ ts, Fr1 X pins b) (na : H a = none)
    (hH : H' = H ∨ ∃ o, H' = upd H a o) (hok : HOk X.prog X.w H' h') : Inv X pins σ H' { s with heap := h', toks := t' } := by
  have fre : frsOf X.stack = X.env.locals :: X.fs := by
    rw [hs]
    show (X.env :: X.outer).filterMap (·.frame) = _
    rw [List.filterMap_cons, hf]
    rfl
  have stay : ∀ b, b ≠ a → H' b = H b := fun b z => by
    rcases hH with e | ⟨o, e⟩
    · rw [e]
    · rw [e, upd_ne z]
  have stayT : ∀ b o, H b = some o → H' b = some o := fun b o q => by rw [stay b (ne_of_none q na)]; exact q
  have any : ∀ b o, s.heap.get? b = some o → b ≠ a → b ∉ ts → ∃ sl, h'.get? b = some { o with slots := sl } := fun b o q z w => by
    by_cases hb : b ∈ frsOf X.stack
    · exact G.slot b o q hb
    · exact ⟨o.slots, G.keep b o q z w hb⟩
  have old : ∀ b o, X.s₀.heap.get? b = some o → b ≠ a ∧ b ∉ ts := fun b o q => ⟨(fun z => by rw [z, ha.s0] at q; cases q), (fun z => by rw [(ht b z).s0] at q; cases q)⟩
  have cellK : ∀ x c, X.env.cells.lookup x = some c → ∀ v, s.heap.IsCell c v → h'.IsCell c v := fun x c e v ⟨o, ho, hd⟩ => by
    obtain ⟨sl, q⟩ := any c o ho (ha.cel x c e) fun z => (ht c z).cel x c e rfl
    exact ⟨_, q, hd⟩
  refine ⟨I.ok, I.os, I.bare, ⟨fun b o e n hb hx => ?_, fun b o e n hb hx => ?_, fun b o e n hx => ?_, fun b o e hx => ?_, fun b xs e => stayT b _ (I.base.tups b xs e), fun b o xs e => stayT b _ (I.base.frzs b o xs e), fun b ps e => ?_⟩, ?_, fun x c e => ?_, ?_, fun x c e => ?_, fun p hp => ?_, hok, I.len⟩
  · refine G.keep b o (I.base.keep b o e n hb hx) (old b o e).1 (old b o e).2 fun z => ?_
    rw [fre] at z
    rcases List.mem_cons.mp z with z | z
    · exact absurd (Nat.lt_of_lt_of_le (Heap.lt_size e) I.ok.above) (by rw [z]; exact Nat.lt_irrefl _)
    · exact hb z
  · obtain ⟨sl, e1⟩ := I.base.slot b o e n hb hx
    obtain ⟨sl', e2⟩ := G.slot b _ e1 (by rw [fre]; exact List.mem_cons_of_mem _ hb)
    exact ⟨sl', e2⟩
  · rw [stay b (old b o e).1]
    exact I.base.free b o e n hx
  · obtain ⟨o1, e1⟩ := I.base.there b o e hx
    obtain ⟨sl, e2⟩ := any b o1 e1 (old b o e).1 (old b o e).2
    exact ⟨_, e2⟩
  · obtain ⟨more, e1⟩ := I.base.tbls b ps e
    exact ⟨more, stayT b _ e1⟩
  · obtain ⟨m, ⟨o, es, ep, ho, r⟩, hl⟩ := I.loc
    obtain ⟨sl, q⟩ := any _ o ho (fun z => ha.loc z.symm) (fun z => (ht _ z).loc rfl)
    refine ⟨m, ⟨_, es, ep, q, r⟩, fun i x v e1 e2 e3 => ?_⟩
    obtain ⟨u, r1, l⟩ := hl i x v e1 e2 e3
    refine ⟨u, r1, ?_⟩
    rcases l with l | ⟨k, c, e, z⟩
    · exact .inl l
    · exact .inr ⟨k, c, e, cellK x c e _ z⟩
  · obtain ⟨v, z⟩ := I.cell x c e
    exact ⟨v, cellK x c e v z⟩
  · rw [stay _ (fun z => ha.loc z.symm)]
    exact I.free
  · rw [stay c (ha.cel x c e)]
    exact I.freeC x c e
  · obtain ⟨e, n, ne, nf, d⟩ := I.pin p hp
    refine ⟨G.keep p.1 p.2 e (ha.pin p hp) (fun z => (ht _ z).pin p hp rfl) (fun z => ?_), by rw [stay _ (ha.pin p hp)]; exact n, ne, nf, d⟩
    rw [fre] at z
    rcases List.mem_cons.mp z with z | z
    · exact ne z
    · exact nf z
theorem HOk.take {P : Program} {w : World} {h : Heap} {o : HO} (ok : HOk P w H h) (na : H a = none) (new : ObjOk P w (upd H a o) h a o) : HOk P w (upd H a o) h := fun b u e => by
  by_cases hb : b = a
  · subst hb
    rw [upd_same] at e
    cases e
    exact new
  · rw [upd_ne hb] at e
    exact (ok b u e).stay (fun _ _ _ q => q) (fun c q => by rw [upd_ne (ne_of_none q na)]; exact q) fun c xs q => by rw [upd_ne (ne_of_none q na)]; exact q
theorem forget_ok {M : Model} {A : Around} {E : Value → Shared → Prop} {i : Nat} {n : Str} {pos : Pos} {Q : Unit → Shared → Prop} (I : Inv X pins σ H s) (hN : X.N.Nodup) (hi : X.N[i]? = some n) (hk : X.env.kindOf n = some .local)
    (h : ∀ s', Inv X pins (σ.set i none) H s' → Q () s') : wpAny M A (do bindName X.env n .none; unbindBehindTheSuite X.env n pos) Q E s := by
  obtain ⟨m, hn, hl⟩ := id I.loc
  obtain ⟨oL, _, _, hoL, _⟩ := id hn
  have hiσ : i < σ.length := by rw [I.len]; exact (List.getElem?_eq_some_iff.mp hi).1
  refine wpAny_nameGoes_keeps hk hn (by rw [I.ok.kind]; rfl) fun h' v hn' hs => h _ ⟨I.ok, I.os, I.bare, ⟨fun b o e n hb hx => ?_, fun b o e n hb hx => ?_, I.base.free, fun b o e hx => ?_, I.base.tups, I.base.frzs, I.base.tbls⟩, ⟨_, hn', fun j y v' e1 e2 e3 => ?_⟩, fun y c e => ?_, I.free, I.freeC, fun p hp => ?_, fun b ob e => ?_, by rw [List.length_set]; exact I.len⟩
  · exact (hs.2 b (Nat.ne_of_lt (Nat.lt_of_lt_of_le (Heap.lt_size e) I.ok.above))).trans (I.base.keep b o e n hb hx)
  · obtain ⟨sl, e1⟩ := I.base.slot b o e n hb hx
    exact ⟨sl, (hs.2 b (Nat.ne_of_lt (Nat.lt_of_lt_of_le (Heap.lt_size e) I.ok.above))).trans e1⟩
  · obtain ⟨o', e1⟩ := I.base.there b o e hx
    exact ⟨o', (hs.2 b (Nat.ne_of_lt (Nat.lt_of_lt_of_le (Heap.lt_size e) I.ok.above))).trans e1⟩
  · by_cases hj : j = i
    · rw [hj, List.getElem?_set_self hiσ] at e2
      cases e2
    · rw [List.getElem?_set_ne (Ne.symm hj)] at e2
      obtain ⟨u', r', q⟩ := hl j y v' e1 e2 e3
      refine ⟨u', r', ?_⟩
      rcases q with ⟨k, e⟩ | ⟨k, c, e, z⟩
      · refine .inl ⟨k, ?_⟩
        have : y ≠ n := fun e => hj (nodup_ix hN e1 (e ▸ hi))
        simp [this, e]
      · exact .inr ⟨k, c, e, z.sameBut hs (I.cne y c e)⟩
  · obtain ⟨w', z⟩ := I.cell y c e
    exact ⟨w', z.sameBut hs (I.cne y c e)⟩
  · obtain ⟨e, n, ne, nf, d⟩ := I.pin p hp
    exact ⟨(hs.2 p.1 ne).trans e, n, ne, nf, d⟩
  · refine (I.hok b ob e).stay (fun c w' hc q => (hs.2 c ?_).trans q) (fun _ q => q) fun _ _ q => q
    intro z
    rcases hc with hc | hc
    · rw [← hc, z, I.free] at e; cases e
    · rw [z, I.free] at hc; cases hc
end
def ExO (a C : Addr) (dd : Option Addr) : HO := .ext fun h => ∃ o vs, h.get? a = some o ∧ o.cls = .ref C ∧ o.dict = dd ∧ o.data = .fields vs
abbrev Cx.hand (X : Cx) (a : Addr) : Cx := { X with A := X.A.mark (some (.ref a)), calm := false, xe := fun _ _ => False }
section
variable {X : Cx} {pins : List (Addr × Obj)} {σ : St} {H : Hp} {s : Shared} {a : Addr}
theorem Inv.hand (I : Inv X pins σ H s) (a : Addr) : Inv (X.hand a) pins σ H s :=
  ⟨⟨I.ok.mod, I.ok.kind, I.ok.glob, I.ok.blt, I.ok.above, I.ok.inj, I.ok.has, I.ok.cab, fun z => absurd (show false = true from z) Bool.false_ne_true, I.ok.frames, I.ok.stk, I.ok.exf, I.ok.bs, I.ok.bsz, I.ok.noex, I.ok.exfs, I.ok.funs, I.ok.frf⟩, I.os, I.bare, I.base, I.loc, I.cell, I.free, I.freeC, I.pin, I.hok, I.len⟩
theorem Inv.unhand (ok : X.Ok) (I : Inv (X.hand a) pins σ H s) : Inv X pins σ H s := ⟨ok, I.os, I.bare, I.base, I.loc, I.cell, I.free, I.freeC, I.pin, I.hok, I.len⟩
end
def Up (X : Cx) (pins : List (Addr × Obj)) (σ : St) (E : XK) (e : Value) (s : Shared) : Prop :=
  ∃ (a T : Addr) (cls : Value) (dd : Option Addr) (H : Hp), e = .ref a ∧ Inv X pins σ H s ∧ Fr1 X pins a ∧ Fr1 X pins T ∧ H a = none ∧ H T = none ∧ Tr s.heap a cls dd T .none ∧ E cls dd H
def TBody (X : Cx) (body : List Stmt) (t : XK → TS) : Prop :=
  ∀ (pins : List (Addr × Obj)) (s : Shared) (σ : St) (H : Hp) (D : Ends) (E : XK) (xe1 : Value → Shared → Prop), Inv X pins σ H s → (∀ e s2, Up X pins σ E e s2 → xe1 e s2) → t E D σ H → wpAny (model X.prog X.w) X.A (execs body X.env) (SP X pins D) xe1 s
section
variable {X : Cx} {j k : Nat} {f : Str} {ps : List Str} {sp : Sp} {e : Expr} {es : List Expr} {ta : TA} {p pos cpos : Pos}
theorem PA.nox {t : TA} (h : PA X.nox es t) (xe1 : Value → Shared → Prop) : PA (X.wish xe1) es t := fun pos pins s σ H Q I hw =>
  wpAny_mono (h pos pins s σ H Q (I.unwish.wish _) hw) (fun _ _ ⟨v, H', I', r, q⟩ => ⟨v, H', I'.unwish.wish _, r, q⟩) fun _ _ z => False.elim z
theorem call_up (C : ClE X.prog X.w X.K X.mg X.base j f ps sp) (hx : X.ex = []) (hr : Room k X.A) (hg : Gl X f) (ha : PA X.nox (e :: es) ta) (hjk : j ≤ k)
    (hdb : (f == ("__debug__" : Str)) = false) (he : starEach (e :: es) X.env = (false, eval e X.env) :: starEach es X.env) (hpl : (backTo cpos (starEach es X.env)).any (·.1) = false)
    {pins : List (Addr × Obj)} {s : Shared} {σ : St} {H : Hp} {Q : VK} {E : XK} {xe1 : Value → Shared → Prop} (I : Inv X pins σ H s) (hu : ∀ e s2, Up X pins σ E e s2 → xe1 e s2) (h : ta σ H fun vs H1 => sp (vs ++ []) H1 Q E) :
    wpAny (model X.prog X.w) X.A (eval (.Call (.Name f p) (e :: es) [] cpos) X.env) (EP X pins σ Q) xe1 s := by
  obtain ⟨fa, fd, F, hm, hk, hb⟩ := C.ex
  refine wpAny_Call_Name_kw (ld_glob I hg hm ?_ hdb)
  refine PySem.W.callWith_K (h₀ := X.base) I.ok.mod.kin hk (thn (PA.nox ha xe1 cpos pins s σ H _ (I.wish _) h) fun us s1 ⟨vs, H1, I1, r, q⟩ => ⟨I1.kIn, ?_⟩) he hpl
  have I1 := I1.unwish
  have r2 : Vals (vs ++ []) (us ++ []) := r.append .nil
  have hl : (us ++ []).length = ps.length := by rw [← r2.length]; exact F.len _ _ _ _ q
  refine wpAny_call (codeAny_mono (F.run X.A X.stack s1 H1 ⟨us, []⟩ (us ++ []) (vs ++ []) Q E (hr.mono hjk) I1.env0 (hb s1 us I1.kIn hl) r2 q) fun r s' hq => ?_)
  cases r with
  | error v =>
    obtain ⟨a, T, cls, dd, H2, rfl, os, bare, un, hok, new, fr, ht, newT, frT, hE⟩ := hq
    exact hu _ _ ⟨a, T, cls, dd, H2, rfl, Inv.call' (ch := []) I1 os un hok bare (fun b z => by cases z), I1.fr1 hx new, I1.fr1 hx newT, fr, frT, ht, hE⟩
  | ok fl =>
    cases fl with
    | ret u => exact I1.after hq
    | next => exact False.elim hq
    | brk => exact False.elim hq
    | cont => exact False.elim hq
def tbCall (sp : Sp) (ta : TA) (k : V → TS) : XK → TS := fun E D σ H => ta σ H fun vs H1 => sp (vs ++ []) H1 (fun v H2 => k v D σ H2) E
theorem tb_expr (C : ClE X.prog X.w X.K X.mg X.base j f ps sp) (hr : Room k X.A) (hg : Gl X f) (ha : PA X.nox (e :: es) ta) (hjk : j ≤ k := by decide) (hx : X.ex = [] := by rfl)
    (hdb : (f == ("__debug__" : Str)) = false := by decide) (he : starEach (e :: es) X.env = (false, eval e X.env) :: starEach es X.env := by rfl) (hpl : (backTo cpos (starEach es X.env)).any (·.1) = false := by rfl)
    (hs : swapsWith (.Call (.Name f p) (e :: es) [] cpos) none pos.line X.env = pure false := by rfl) :
    TBody X [.Expr (.Call (.Name f p) (e :: es) [] cpos) pos] (tbCall sp ta fun _ => tNext) := by
  intro pins s σ H D E xe1 I hu h
  refine wpAny_execs_cons (thn (Q := fun f s1 => SP X pins D f s1) (wpAny_Expr_any (thn (call_up C hx hr hg ha hjk hdb he hpl I hu h) fun v s1 ⟨x, H1, I1, r1, q1⟩ => ⟨σ, H1, I1, q1⟩) I.quiet hs) fun f s1 q => ?_)
  cases f with
  | next => exact wpAny_execs_nil q
  | ret v => exact q
  | brk => exact q
  | cont => exact q
end
structure XK1 (K : PySem.W.Frag) (C : Addr) : Prop where
  cl : (PySem.W.clsIn K C).isSome = true
  ty : PySem.W.typeIn K (.ref C) = some (.type "type")
  base : PySem.W.mroIn K C (.type "BaseException") = some true
  ga : PySem.W.findIn K (.ref C) "__getattribute__" = some (some (.builtin "BaseException.__getattribute__"))
  gt : PySem.W.findIn K (.ref C) "__getattr__" = some none
  ca : PySem.W.findIn K (.ref C) "__class__" = some (some (.builtin "object.__class__"))
  gd : PySem.W.specialIn K (.builtin "object.__class__") "__get__" = some (some (.builtin "getset_descriptor.__get__"))
  tk : PySem.W.takesIn K (.builtin "object.__class__") = some true
  ob : PySem.W.mroIn K C (.type "object") = some true
theorem looks_isType {K : PySem.W.Frag} {M : Model} {h : Heap} (x : K.In h) {C : Addr} (e : (PySem.W.clsIn K C).isSome = true) : PySem.W.Looks M h (isType (.ref C)) true := by
  unfold PySem.W.clsIn at e
  split at e
  · rename_i c' d' cd' sl' ho
    intro A' Q' E' s' k q
    unfold isType loadHead
    exact wpAny_bind (wpAny_loadPart (k _ _ (x _ _ ho)) (wpAny_pure q))
  · cases e
theorem exc_match {M : Model} {A : Around} {E : Value → Shared → Prop} {s : Shared} {K : PySem.W.Frag} {a C B : Addr} {o : Obj} {Q : Bool → Shared → Prop} (X : K.In s.heap) (b : XK1 K B) (sub : PySem.W.mroIn K C (.ref B) = some true) (ha : s.heap.get? a = some o) (hc : o.cls = .ref C)
    (h : Q true s) : wpAny M A (excMatches (.ref a) (.ref B)) Q E s := by
  obtain ⟨hh, g, d, t, os⟩ := s
  have L1 := PySem.W.looks_typeIn (M := M) X b.ty
  have L2 : PySem.W.Looks M hh (isSubtype (.type "type") (.type "tuple")) false := PySem.W.Looks.of_pure tc_notTuple
  have L3 := looks_isType (M := M) X b.cl
  have L4 := PySem.W.looks_mroIn (M := M) X b.base
  have L5 : PySem.W.Looks M hh (typeOf (.ref a)) (.ref C) := hc ▸ (PySem.W.Looks.ld ha).andThen .now
  have L6 := PySem.W.looks_mroIn (M := M) X sub
  have L7 : PySem.W.Looks M hh (isInstance (.ref B) (.type "tuple")) false := L1.andThen L2
  have L8 : PySem.W.Looks M hh (isExcClass (.ref B)) true := L3.andThen (by simpa using L4)
  unfold excMatches
  refine wpAny_bind (L7.at ?_)
  simp only [Bool.false_eq_true, if_false, List.forIn_cons, List.forIn_nil, pure_bind]
  refine wpAny_bind (wpAny_bind (wpAny_bind (L8.at ?_)))
  simp only [Bool.not_true, Bool.false_eq_true, if_false]
  refine wpAny_pure (wpAny_pure (wpAny_bind (L5.at (wpAny_bind (wpAny_bind (wpAny_bind (L6.at ?_)))))))
  simp only [if_true]
  exact wpAny_pure (wpAny_pure (wpAny_pure h))
def goneD (i : Nat) (D : Ends) : Ends := { nx := fun σ H => D.nx (σ.set i none) H, rt := D.rt, bk := fun σ H => D.bk (σ.set i none) H, ct := fun σ H => D.ct (σ.set i none) H }
def tTryAs (K : PySem.W.Frag) (B : Addr) (i : Nat) (tb : XK → TS) (th : TS) : TS := fun D σ H =>
  tb (fun cls dd H2 => ∃ C, cls = .ref C ∧ PySem.W.mroIn K C (.ref B) = some true ∧ ∀ a, H2 a = none → th (goneD i D) (σ.set i (some (.ref a))) (upd H2 a (ExO a C dd))) D σ H
section
variable {X : Cx} {body : List Stmt} {tb : XK → TS} {x n : Str} {B : Addr} {i : Nat} {b0 : Stmt} {suite : List Stmt} {th : TS} {np hp pos : Pos}
theorem exo_ok {P : Program} {w : World} {H : Hp} {h : Heap} {a T C : Addr} {dd : Option Addr} {fl : Value} (t : Tr h a (.ref C) dd T fl) : ObjOk P w (upd H a (ExO a C dd)) h a (ExO a C dd) := by
  obtain ⟨oe, vs, oT, ts, h1, h2, h2', h3, _⟩ := t
  exact ⟨⟨oe, vs, h1, h2, h2', h3⟩, ⟨oe, h1⟩, fun g1 g2 ⟨o, vs, q, r⟩ k => ⟨o, vs, k o q, r⟩⟩
theorem ps_tryAs (hN : X.N.Nodup) (hi : X.N[i]? = some n) (hk : X.env.kindOf n = some .local) (hg : Gl X x) (hm : X.mg x = some (.ref B)) (b : XK1 X.K B) (hb : TBody X body tb) (hh : ∀ a, PSs (X.hand a) (b0 :: suite) th)
    (hx : X.ex = [] := by rfl) (hs : X.stack = X.env :: X.outer := by rfl) (hf : X.env.frame = some X.env.locals := by rfl) (hd : (x == ("__debug__" : Str)) = false := by decide) (hfn : X.fn n = true ∨ X.env.scope.names.lookup n = some .local := by first | exact .inl rfl | exact .inr rfl) :
    PS X (.Try body [.ExceptHandler (some (.Name x np)) (some n) (b0 :: suite) hp] [] [] pos) (tTryAs X.K B i tb th) := by
  intro pins s σ H D I h
  refine wpAny_Try_except (thn (hb pins s σ H D _ _ I (fun e s1 u => ?_) h) fun f s1 q => ?_)
  · obtain ⟨a, T, cls, dd, H2, rfl, I1, fa, fT, na, nT, ht, C, rfl, sub, hth⟩ := u
    have st : s1.heap.FunFrames X.base (X.env :: X.outer) := hs ▸ I1.stack
    refine note_next (by rw [I1.ok.frames, hs]) st hf ht fun h3 T3 G3 n3 t3 => fly_off t3 fun h4 k4 t4 => ?_
    have G4 := G3.off k4 (.inl n3) (new_notIn n3 st)
    have ok4 : HOk X.prog X.w H2 h4 := HOk.gone I1.hok G4 na (fun b z => by rw [List.mem_singleton.mp z]; exact nT) (hs ▸ I1.stkFree)
    have I4 : Inv X pins σ H2 { s1 with heap := h4 } := I1.flown (t' := s1.toks) hx hs hf (hs ▸ G4) fa (fun b z => by rw [List.mem_singleton.mp z]; exact fT) na (.inl rfl) ok4
    obtain ⟨oe, vs, oT, tt, e1, e2, _⟩ := id t4
    refine wpAny_handleBy_cons (codeAny_handlers_test (ld_glob (I4.hand a) hg hm (exc_match I4.kIn b sub e1 e2 (codeAny_handlers_suite_as (fly_off t4 fun h5 k5 t5 => ?_))) hd)) (by intro q; cases q)
    have G5 := G4.off k5 (.inl n3) (new_notIn n3 st)
    have ok5 : HOk X.prog X.w H2 h5 := HOk.gone I1.hok G5 na (fun b z => by rw [List.mem_singleton.mp z]; exact nT) (hs ▸ I1.stkFree)
    have I5 : Inv X pins σ (upd H2 a (ExO a C dd)) { s1 with heap := h5 } := I1.flown (t' := s1.toks) hx hs hf (hs ▸ G5) fa (fun b z => by rw [List.mem_singleton.mp z]; exact fT) na (.inr ⟨_, rfl⟩) (ok5.take na (exo_ok t5))
    refine store_ok I5 hN hi (.inl hk) (show RelV (.ref a) (.ref a) from rfl) (fun s6 I6 => ?_) hfn
    refine wpAny_mono (hh a pins s6 _ _ _ (I6.hand a) (hth a na)) (fun f s7 q => ?_) fun _ _ z => z.elim
    cases f with
    | next =>
      obtain ⟨σ', H', I', q⟩ := q
      exact forget_ok (I'.unhand I.ok) hN hi hk fun s8 I8 => ⟨_, H', I8, q⟩
    | brk =>
      obtain ⟨σ', H', I', q⟩ := q
      exact forget_ok (I'.unhand I.ok) hN hi hk fun s8 I8 => ⟨_, H', I8, q⟩
    | cont =>
      obtain ⟨σ', H', I', q⟩ := q
      exact forget_ok (I'.unhand I.ok) hN hi hk fun s8 I8 => ⟨_, H', I8, q⟩
    | ret u =>
      obtain ⟨v, σ', H', I', r, q⟩ := q
      exact forget_ok (I'.unhand I.ok) hN hi hk fun s8 I8 => ⟨v, _, H', I8, r, q⟩
  · cases f with
    | next => exact wpAny_execs_nil q
    | ret v => exact q
    | brk => exact q
    | cont => exact q
end
abbrev bmV : List Value := [.type "ValueError", .type "Exception", .type "BaseException", .type "object"]
theorem own_obj {K : PySem.W.Frag} {h : Heap} {C : Addr} {bmB : List Value} {newId : String} (X : K.In h) (q : PySem.W.excIn K C bmB newId = true) : ∃ bm N nm qn bs hdct sn sub ab col dd k0 k1 k2 k3 k5 mN,
    h.get? C = some (excClassObj nm qn C N bs bm hdct sn sub ab col dd k0 k1 k2 k3 k5 newId) ∧ h.Ns N mN ∧ mN "__init__" = none ∧ OwnTail h bmB bm := by
  unfold PySem.W.excIn at q
  split at q
  · rename_i dd cd sl ho
    split at q
    · rename_i C' bm k0 k1 k2 k3 n k5 e1 e2
      simp only [Bool.and_eq_true, beq_iff_eq, Bool.not_eq_true'] at q
      obtain ⟨⟨⟨⟨⟨c1, c2⟩, c3⟩, c4⟩, c5⟩, c6⟩ := q
      cases c1
      cases c2
      obtain ⟨nm, bs, mro, ns, qn, hd, sn, sub, ab, col, del⟩ := cd
      dsimp only at e1 c3 c5 c6
      cases e1
      cases c3
      obtain ⟨l⟩ := sl
      cases (show l = _ from e2)
      exact ⟨bm, ns, nm, qn, bs, hd, sn, sub, ab, col, dd, k0, k1, k2, k3, k5, _, X _ _ ho, .of_isNs (PySem.W.isNs_of_in X c5), PySem.W.nsMap_none_of_in X c5 c6, PySem.W.tail_of_in X c4⟩
    · cases q
  · cases q
section
variable {P : Program} {w : World} {K : PySem.W.Frag} {mg : Str → Option Value} {base : Heap} {N : List Str} {qual : Str} {scope : Scope} {f : Addr} {cd : Value} {A : Around} {outer : List Env} {s : Shared} {H : Hp} {E : XK}
end
end L2
set_option Elab.async false
set_option linter.all false
set_option maxRecDepth 100000
set_option maxHeartbeats 4000000
namespace L2
open PySem PySem.Spec PyProof.Rows XC
section
variable {prog : Program} {w : World} {A : Around} {E : Value → Shared → Prop} {s : Shared} {K : PySem.W.Frag} {x C : Addr} {ox : Obj} {od : Option Obj}
theorem exc_found (k : XK1 K C) : PySem.W.findObj K C od "__class__" = some (.bind (.builtin "getset_descriptor.__get__") (.builtin "object.__class__")) := by
  obtain ⟨cd, hc⟩ := Option.isSome_iff_exists.mp k.cl
  unfold PySem.W.findObj
  rw [hc, Option.bind_some, k.ca, Option.bind_some]
  simp [k.gd, k.tk]
theorem exc_check {M : Model} {tk : Tok} {n : Str} {Q : Unit → Shared → Prop} (k : XK1 K C) (X : K.In s.heap) (I : PySem.W.InstAt s.heap x ox C od) (h : Q () s) : wpAny M A (checkBuiltinCall "BaseException.__getattribute__" ⟨[.ref x, .str n tk], []⟩) Q E s := by
  obtain ⟨hh, g, d, t, os⟩ := s
  have hk : builtinKind "BaseException.__getattribute__" = some .slot := by decide +kernel
  have hsplit : splitId "BaseException.__getattribute__" = some ("BaseException", "__getattribute__") := by decide +kernel
  have ha := F.args_bexc_ga (.ref x) (.str n tk)
  have L1 : PySem.W.Looks M hh (isInstance (.ref x) (.type "BaseException")) true := (I.type (M := M)).andThen (PySem.W.looks_mroIn X k.base)
  simp only [checkBuiltinCall, hk, hsplit]
  refine wpAny_bind (L1.at ?_)
  simp only [Bool.not_true, Bool.false_eq_true, if_false]
  exact wpAny_of_eq ha h
theorem exc_class {Q : Option Value → Shared → Prop} (k : XK1 K C) (X : K.In s.heap) (I : PySem.W.InstAt s.heap x ox C od) (h : Q (some (.ref C)) { s with toks := s.toks + 1 }) : wpAny (model prog w) A (getAttr? (.ref x) "__class__") Q E s := by
  obtain ⟨hh, g, d, t, os⟩ := s
  have L0 := I.type (M := model prog w)
  have L1 := PySem.W.looks_findIn (M := model prog w) X k.ga
  have L2 := PySem.W.looks_findIn (M := model prog w) X k.gt
  have L3 := PySem.W.looks_find (M := model prog w) X I (exc_found k)
  unfold getAttr? getAttrBy? getAttrBy
  refine wpAny_bind (wpAny_mkText (wpAny_bind (wpAny_attempt (wpAny_holding (wpAny_bind (L0.at (wpAny_bind (L1.at ?_))))))))
  dsimp only
  rw [if_neg (by rw [show (Value.builtin "BaseException.__getattribute__" == Value.builtin "object.__getattribute__") = false by decide +kernel, Bool.and_false]; exact Bool.false_ne_true)]
  unfold getAttrByItsOwn hookBefore
  rw [if_pos (show onTheHeap (Value.ref C) = true from rfl)]
  refine wpAny_bind (L2.at (wpAny_bind (wpAny_attempt (wpAny_holding ?_))))
  unfold callGetattribute boundAndCalled
  rw [if_neg (by rw [Bool.false_and]; exact Bool.false_ne_true)]
  refine wpAny_bind (wpAny_of_eq (F.excAttr_ValueError.ga.bind _) ?_)
  refine wpAny_call (codeAny_call_builtin F.excAttr_ValueError.ga.plain F.entry_bexc_ga (exc_check k X I ?_))
  unfold Builtin.«object.__getattribute__»
  refine wpAny_bind (wpAny_of_eq (a := (Value.ref x, [Value.str "__class__" t])) rfl (wpAny_bind (wpAny_of_eq (a := ("__class__" : Str)) rfl (wpAny_bind (L0.at (wpAny_bind (L3.at ?_)))))))
  show wpAny _ _ (holding [Value.builtin "object.__class__"] (call (.builtin "getset_descriptor.__get__") [.builtin "object.__class__", .ref x, .ref C]) >>= ret) _ _ _
  refine wpAny_bind (wpAny_holding (wpAny_call (PySem.W.class_get (s := ⟨hh, g, d, t + 1, os⟩) X I k.ob (wpAny_pure ?_))))
  show wpAny _ _ (handedOut (.ref C)) _ _ _
  exact PySem.W.handed_on rfl (wpAny_pure h)
end
theorem kitx_exc {K : PySem.W.Frag} {x C : Addr} (k : XK1 K C) : PySem.W.KitX K (.ref x) (.ref C) (fun h => ∃ ox od, PySem.W.InstAt h x ox C od) where
  ty := fun _ _ _ ⟨_, _, I⟩ => I.type
  it := fun _ _ X _ => looks_isType X k.cl
  ne := fun h tp dd its n sl X htp => by
    refine Bool.eq_false_iff.mpr fun q => ?_
    have e : C = tp := Value.ref.inj (beq_iff_eq.mp q)
    subst e
    have z := k.cl
    unfold PySem.W.clsIn at z
    split at z
    · rename_i ho
      have z2 := (X _ _ ho).symm.trans htp
      cases z2
    · cases z
  ca := fun X ⟨_, _, I⟩ q => exc_class k X I q
inductive ExC (K : PySem.W.Frag) (H : Hp) (t : Value) : V → Bool → Prop
  | one {B : Addr} {b : Bool} (e : PySem.W.kitOne K t (.ref B) = some b) : ExC K H t (.ref B) b
  | ty {T : String} {b : Bool} (e : PySem.W.kitOne K t (.type T) = some b) : ExC K H t (.ty T) b
  | tup {p : Addr} {Bs : List Addr} {b : Bool} (h : H p = some (.tup (Bs.map V.ref))) (e : PySem.W.kitAny K t (Bs.map Value.ref) = some b) : ExC K H t (.ref p) b
def DictThere (H : Hp) : Option Addr → Prop
  | none => True
  | some dx => ∃ u, H dx = some u
theorem vals_refs : ∀ {Bs : List Addr} {its : List Value}, Vals (Bs.map V.ref) its → its = Bs.map Value.ref
  | [], _, .nil => rfl
  | B :: r, _, .cons h t => by
    rw [vals_refs t, show _ = Value.ref B from h]
    rfl
theorem exo_inst {P : Program} {w : World} {H : Hp} {h : Heap} {a C : Addr} {dd : Option Addr} (ok : HOk P w H h) (ha : H a = some (ExO a C dd)) (hd : DictThere H dd) : ∃ ox od, PySem.W.InstAt h a ox C od := by
  obtain ⟨⟨o, vs, h1, h2, h3, h4⟩, _⟩ := ok a _ ha
  have nc : PySem.W.notCls o = true := by unfold PySem.W.notCls; rw [h4]
  cases dd with
  | none => exact ⟨o, none, h1, h2, nc, by rw [h3]; trivial⟩
  | some dx =>
    obtain ⟨u, hu⟩ := hd
    obtain ⟨od, q⟩ := (ok dx u hu).there
    exact ⟨o, some od, h1, h2, nc, by rw [h3]; exact q⟩
theorem call_isinstE {X : Cx} : CallR X (.builtin "isinstance") (fun xs H Q => ∃ a C dd c b, xs = [.ref a, c] ∧ H a = some (ExO a C dd) ∧ DictThere H dd ∧ XK1 X.K C ∧ ExC X.K H (.ref C) c b ∧ Q (.bl b) H) := by
  intro pins s σ H xs us Q I r h
  obtain ⟨a, C, dd, c, b, rfl, ha, hd, k, hc, q⟩ := h
  obtain ⟨u, w', rfl, rx, ry⟩ := vals2 r
  cases (show u = Value.ref a from rx)
  have J := exo_inst I.hok ha hd
  cases hc with
  | @one B b e =>
    cases (show w' = Value.ref B from ry)
    exact PySem.W.kia_one (kitx_exc k) I.kIn J e (fun z => nomatch z) fun tk => ⟨.bl b, H, I.tok _, rfl, q⟩
  | @ty T b e =>
    cases (show w' = Value.type T from ry)
    exact PySem.W.kia_one (kitx_exc k) I.kIn J e (fun z => nomatch z) fun tk => ⟨.bl b, H, I.tok _, rfl, q⟩
  | @tup p Bs b hp e =>
    cases (show w' = Value.ref p from ry)
    obtain ⟨_, its, rv, ⟨oc, od, oda, osl⟩, e1, e2, n, e3⟩ := (show ObjOk X.prog X.w H s.heap p (.tup (Bs.map V.ref)) from I.hok p _ hp)
    dsimp only at e2 e3
    subst e2 e3
    rw [vals_refs rv] at e1
    exact PySem.W.kia_tup (kitx_exc k) I.kIn J e1 e (fun z => nomatch z) fun tk => ⟨.bl b, H, I.tok _, rfl, q⟩
theorem boot_ValueError : bootBuiltins "ValueError" = some (.type "ValueError") := by kernel_rfl
end L2
set_option Elab.async false
set_option linter.all false
set_option maxRecDepth 100000
set_option maxHeartbeats 1000000
namespace L2
open PySem PySem.Spec PyProof.Rows XC
inductive OverV : List Value → Prop
  | base : OverV bmV
  | own {c : Addr} {l : List Value} : OverV l → OverV (.ref c :: l)
theorem OverV.pass (self : Value) {l : List Value} (h : OverV l) : refuseLoop self "__setattr__" l = pure () := by
  induction h with
  | base => exact F.store_ValueError.passes self
  | own _ ih => rw [refuseLoop_ref]; exact ih
structure XF (K : PySem.W.Frag) (C : Addr) (f : Str) : Prop where
  cd : ∃ cd, PySem.W.clsIn K C = some cd ∧ OverV cd.mro ∧ cd.hasDict = true
  sa : PySem.W.findIn K (.ref C) "__setattr__" = some (some (.builtin "object.__setattr__"))
  no : PySem.W.findIn K (.ref C) f = some none
section
variable {prog : Program} {w : World} {A : Around} {E : Value → Shared → Prop} {s : Shared} {K : PySem.W.Frag} {x C : Addr} {o : Obj} {vs : Array Value} {f : Str} {v : Value}
theorem exc_set {Q : Unit → Shared → Prop} (k : XK1 K C) (xf : XF K C f) (X : K.In s.heap) (hx : s.heap.get? x = some o) (hc : o.cls = .ref C) (hd : o.dict = none) (hv : o.data = .fields vs)
    (h : ∀ h' dx tk, dx = s.heap.objs.size → (∀ b u, b ≠ x → s.heap.get? b = some u → h'.get? b = some u) → h'.get? x = some { o with dict := some dx } → dx ≠ x → h'.Ns1 dx (fun y => if y = f then some v else none) → Q () { s with heap := h', toks := tk }) :
    wpAny (model prog w) A (setAttr (.ref x) f v) Q E s := by
  obtain ⟨hh, g, d, t, os⟩ := s
  obtain ⟨cd, c1, c2, c3⟩ := xf.cd
  have SF := F.store_ValueError
  have L0 : PySem.W.Looks (model prog w) hh (typeOf (.ref x)) (.ref C) := hc ▸ (PySem.W.Looks.ld hx).andThen .now
  have L1 := PySem.W.looks_findIn (M := model prog w) X xf.sa
  have L2 := PySem.W.looks_findIn (M := model prog w) X xf.no
  have L3 : PySem.W.Looks (model prog w) hh (mroOf (.ref C)) cd.mro := (PySem.W.looks_clsIn X c1).andThen .now
  have L4 : PySem.W.Looks (model prog w) hh (isInstance (.ref x) (.type "object")) true := L0.andThen (PySem.W.looks_mroIn X k.ob)
  unfold setAttr callSpecial? specialOf
  refine wpAny_bind (wpAny_mkText (wpAny_bind (wpAny_bind (wpAny_bind (L0.at (L1.at ?_))))))
  refine wpAny_holding (wpAny_bind (wpAny_of_eq (SF.slot.bind (.ref x)) ?_))
  refine wpAny_bind (wpAny_call (codeAny_call_builtin SF.slot.plain SF.entry (@PySem.W.check_slot (model prog w) _ _ ⟨hh, g, d, t + 1, os⟩ "object.__setattr__" "object" "__setattr__" (.ref x) [.str f t, v] [] _ SF.kind SF.split L4 (SF.args (.ref x) (.str f t) v) ?_)))
  show wpAny _ _ (Builtin.«object.__setattr__» ⟨[.ref x, .str f t, v], []⟩) _ _ _
  rw [PySem.W.osa_eq, refuse_eq]
  refine wpAny_bind (wpAny_bind (L0.at (wpAny_bind (L3.at ?_))))
  rw [c2.pass]
  refine wpAny_pure (wpAny_bind (L0.at (wpAny_bind (L2.at (wpAny_bind (wpAny_pure ?_))))))
  show wpAny _ _ (Builtin.ObjectAttr.storeInOwnDict (.ref x) (.ref C) (.str f t) f v false) _ _ _
  obtain ⟨oc, od, oda, osl⟩ := o
  dsimp only at hc hd hv
  subst hc hd hv
  refine wpAny_bind (wpAny_pure (wpAny_bind (wpAny_bind (wpAny_loadPart hx (wpAny_bind ((PySem.W.looks_clsIn X c1).at ?_))))))
  rw [c3]
  have hx1 : (hh.push { cls := .type "dict", data := .dict #[] }).get? x = some ⟨.ref C, none, .fields vs, osl⟩ := Heap.get?_push_of_some _ hx
  have hxs : x ≠ hh.objs.size := Nat.ne_of_lt (Heap.lt_size hx)
  refine wpAny_bind (wpAny_alloc' (wpAny_bind (wpAny_update' hx1 (wpAny_pure ?_))))
  have gx : ((hh.push { cls := .type "dict", data := .dict #[] }).update x fun o => { o with dict := some hh.objs.size }).get? x = some ⟨.ref C, some hh.objs.size, .fields vs, osl⟩ := Heap.get?_update_self _ hx1 rfl
  have gd : ((hh.push { cls := .type "dict", data := .dict #[] }).update x fun o => { o with dict := some hh.objs.size }).get? hh.objs.size = some { cls := .type "dict", data := .dict #[] } := by
    rw [Heap.get?_update_other _ _ hxs]
    exact Heap.get?_push_size _ rfl
  have ko : ∀ b u, b ≠ x → hh.get? b = some u → ((hh.push { cls := .type "dict", data := .dict #[] }).update x fun o => { o with dict := some hh.objs.size }).get? b = some u := fun b u z q => by
    rw [Heap.get?_update_other _ _ (Ne.symm z)]
    exact Heap.get?_push_of_some _ q
  show wpAny _ _ (Builtin.ObjectAttr.storeInDict hh.objs.size (.str f t) f v) _ _ ⟨(hh.push { cls := .type "dict", data := .dict #[] }).update x fun o => { o with dict := some hh.objs.size }, g, d, t + 1, os⟩
  generalize ((hh.push { cls := .type "dict", data := .dict #[] }).update x fun o => { o with dict := some hh.objs.size }) = h2 at gx gd ko
  have nd : h2.Ns hh.objs.size (fun _ => none) := ⟨_, #[], _, gd, rfl, fun e he => absurd he (by simp), fun _ => rfl⟩
  unfold Builtin.ObjectAttr.storeInDict Builtin.ObjectAttr.newKeyGuard
  refine wpAny_bind (wpAny_pure (wpAny_bind (wpAny_nsSet1 (Heap.Ns1.of_empty nd) fun h3 n3 S3 => ?_)))
  obtain ⟨oD, esD, epD, a1, a2, a3⟩ := n3.count (Within.cons f v Within.nil)
  refine wpAny_bind (wpAny_lookBehind a1 (by rw [a2]; exact pastItsLine_dict (Nat.le_trans a3 (by rw [List.length_cons, List.length_nil, sizeLine_eq]; omega))) ?_)
  refine wpAny_pure (wpAny_pure (wpAny_pure ?_))
  refine h h3 hh.objs.size _ rfl (fun b u z q => ?_) ((S3.2 x hxs).trans gx) (Ne.symm hxs) n3
  exact (S3.2 b (Nat.ne_of_lt (Heap.lt_size q))).trans (ko b u z q)
theorem exc_get {Q : Value → Shared → Prop} {expr : Bool} {dx : Addr} {mA : Str → Option Value} (k : XK1 K C) (xf : XF K C f) (X : K.In s.heap) (hx : s.heap.get? x = some o) (hc : o.cls = .ref C) (hd : o.dict = some dx) (hv : o.data = .fields vs) (hn : s.heap.Ns1 dx mA) (hf : mA f = some v) (hh : PySem.W.handedIn v = true)
    (h : ∀ tk, Q v { s with toks := tk }) : wpAny (model prog w) A (getAttr (.ref x) f expr) Q E s := by
  obtain ⟨hp, g, d, t, os⟩ := s
  obtain ⟨cd, c1, c2, c3⟩ := xf.cd
  obtain ⟨od, es, ep, n1, n2, n3, n4, n5⟩ := id hn
  have I : PySem.W.InstAt hp x o C (some od) := ⟨hx, hc, by unfold PySem.W.notCls; rw [hv], by rw [hd]; exact n1⟩
  have lk : PySem.W.lookIn f od = some (some v) := by
    unfold PySem.W.lookIn
    rw [n2]
    have q := n5 f
    rw [hf] at q
    unfold nsFind findBy at q
    obtain ⟨en, q1, q2⟩ := Option.map_eq_some_iff.mp q
    dsimp only
    rw [← Array.find?_toList] at q1
    rw [q1]
    exact congrArg (fun z => some (some z)) q2
  have fo : PySem.W.findObj K C (some od) f = some (.value v) := by
    unfold PySem.W.findObj
    rw [c1, Option.bind_some, xf.no, Option.bind_some]
    simp [PySem.W.ownOf, c3, lk]
  have L0 := I.type (M := model prog w)
  have L1 := PySem.W.looks_findIn (M := model prog w) X k.ga
  have L2 := PySem.W.looks_findIn (M := model prog w) X k.gt
  have L3 := PySem.W.looks_find (M := model prog w) X I fo
  unfold getAttr getAttrBy
  refine wpAny_bind (wpAny_mkText (wpAny_holding (wpAny_bind (L0.at (wpAny_bind (L1.at ?_))))))
  dsimp only
  rw [if_neg (by rw [show (Value.builtin "BaseException.__getattribute__" == Value.builtin "object.__getattribute__") = false by decide +kernel, Bool.and_false]; exact Bool.false_ne_true)]
  unfold getAttrByItsOwn hookBefore
  rw [if_pos (show onTheHeap (Value.ref C) = true from rfl)]
  refine wpAny_bind (L2.at (wpAny_bind (wpAny_attempt (wpAny_holding ?_))))
  unfold callGetattribute boundAndCalled
  rw [if_neg (by rw [show onTheHeap (Value.builtin "BaseException.__getattribute__") = false from rfl, Bool.and_false]; exact Bool.false_ne_true)]
  refine wpAny_bind (wpAny_of_eq (F.excAttr_ValueError.ga.bind _) ?_)
  refine wpAny_call (codeAny_call_builtin F.excAttr_ValueError.ga.plain F.entry_bexc_ga (exc_check k X I ?_))
  unfold Builtin.«object.__getattribute__»
  refine wpAny_bind (wpAny_of_eq (a := (Value.ref x, [Value.str f t])) rfl (wpAny_bind (wpAny_of_eq (a := f) rfl (wpAny_bind (L0.at (wpAny_bind (L3.at (wpAny_pure ?_))))))))
  show wpAny _ _ (handedOut v) _ _ _
  exact PySem.W.handed_on hh (h _)
end
section
variable {prog : Program} {w : World} {A : Around} {E : Value → Shared → Prop} {h : Heap} {g : Array GenState} {d : Drawn} {t : Nat} {os : OsState}
variable {nm q : Str} {C N e : Addr} {bs bm : List Value} {hdct : Bool} {sn : List Str} {sub : List Value} {ab : Bool} {col : Option Bool} {dd : Option Addr} {k0 k1 k2 k3 k5 : Option Value} {oe : Obj} {vs : Array Value} {v : Value}
theorem exc_init {Q : Value → Shared → Prop} (hC : h.get? C = some (excClassObj nm q C N bs bm hdct sn sub ab col dd k0 k1 k2 k3 k5 "ValueError.__new__")) (T : OwnTail h bmV bm) (he : h.get? e = some oe) (hc : oe.cls = .ref C) (hd : oe.data = .fields vs) {a0 : Addr} (h0 : vs[0]? = some (.ref a0))
    (k : ∀ h' t', h.get? t' = none → (∀ b o, b ≠ e → h.get? b = some o → h'.get? b = some o) → h'.get? e = some (oe.mapFields (·.setIfInBounds 0 (.ref t'))) → Q .none ⟨h', g, d, t, os⟩) :
    wpAny (model prog w) A (call (.builtin "ValueError.__init__") [.ref e, v]) Q E ⟨h, g, d, t, os⟩ := by
  refine wpAny_call (codeAny_call_builtin F.excBase_ValueError.init.plain F.excBase_ValueError.initEntry (wpAny_check_init_subT F.excBase_ValueError T hC he hc ?_))
  iterate 12 (first | wp_step | skip)
  have he2 := Heap.get?_push_of_some { cls := .type "tuple", data := .seq #[v] } he
  unfold Builtin.BaseException.bexcPut
  refine wpAny_bind (wpAny_field he2 hd h0 (wpAny_bind (wpAny_setField he2 hd (Array.getElem?_eq_some_iff.mp h0).1 ?_)))
  wp_walk
  refine k _ h.objs.size (Heap.get?_none_of_le (Nat.le_refl _)) (fun b o z qb => ?_) (Heap.get?_update_self _ he2 (Obj.isFreed_of_fields (Obj.data_mapFields hd _)))
  rw [Heap.get?_update_other _ _ (Ne.symm z)]
  exact Heap.get?_push_of_some _ qb
end
section
variable {prog : Program} {w : World} {A : Around} {E : Value → Shared → Prop} {h : Heap} {g : Array GenState} {d : Drawn} {t : Nat} {os : OsState}
variable {nm q : Str} {C N fI : Addr} {bs bm : List Value} {hdct : Bool} {sn : List Str} {sub : List Value} {ab : Bool} {col : Option Bool} {dd : Option Addr} {k0 k1 k2 k3 k5 : Option Value} {oI : Obj} {rest : List Value}
theorem exc_tcall {Q : Fin → Shared → Prop} (hC : h.get? C = some (excClassObj nm q C N bs bm hdct sn sub ab col dd k0 k1 k2 k3 k5 "ValueError.__new__")) (T : OwnTail h bmV bm) (hl : PySem.W.Looks (model prog w) h (typeLookup (.ref C) "__init__") (some (.ref fI)))
    (hf : h.get? fI = some oI) (hc : oI.cls = .type "function") (hz : rest.length ≤ sizeLine)
    (k : ∀ h' e, Heap.MadeExcOf h h' e (.ref C) rest → wpAny (model prog w) A (call (.ref fI) (.ref e :: rest)) (fun r s' => r = .none ∧ Q (.done (.ret (.ref e))) s') E ⟨h', g, d, t, os⟩) :
    wpAny (model prog w) A (Builtin.«type.__call__» ⟨.ref C :: rest, []⟩) Q E ⟨h, g, d, t, os⟩ := by
  iterate 60 (first | with_reducible refine wpAny_loadPart_at hC ?_ | with_reducible refine wpAny_madeBy_exc hC ?_ | wp_step | skip)
  refine codeAny_call_builtin_code (Code.quiet_builtin _ F.excBase_ValueError.quiet) (wpAny_check_new_subT F.excBase_ValueError T hC (codeAny_exc_new_subT F.excBase_ValueError T hC ?_ hz))
  have kp : ∀ b o, h.get? b = some o → ((h.push { cls := .type "tuple", data := .seq rest.toArray }).push { cls := .ref C, data := .fields #[.ref h.objs.size, .none, .none, .none, .bool false, .none] }).get? b = some o := fun b o e => Heap.get?_push_of_some _ (Heap.get?_push_of_some _ e)
  have gt : ((h.push { cls := .type "tuple", data := .seq rest.toArray }).push { cls := .ref C, data := .fields #[.ref h.objs.size, .none, .none, .none, .bool false, .none] }).get? h.objs.size = some { cls := .type "tuple", data := .seq rest.toArray } := Heap.get?_push_of_some _ (Heap.get?_push_size _ rfl)
  have ge : ((h.push { cls := .type "tuple", data := .seq rest.toArray }).push { cls := .ref C, data := .fields #[.ref h.objs.size, .none, .none, .none, .bool false, .none] }).get? (h.objs.size + 1) = some { cls := .ref C, data := .fields #[.ref h.objs.size, .none, .none, .none, .bool false, .none] } := by
    rw [show h.objs.size + 1 = (h.push { cls := .type "tuple", data := .seq rest.toArray }).objs.size from (Heap.size_push _ _).symm]
    exact Heap.get?_push_size _ rfl
  have M := Heap.MadeExcOf.mk (h := h) (e := h.objs.size + 1) (cls := .ref C) (args := rest) kp (Heap.get?_none_of_le (Nat.le_succ _)) ⟨h.objs.size, ge, Heap.get?_none_of_le (Nat.le_refl _), gt⟩
  generalize (h.push { cls := .type "tuple", data := .seq rest.toArray }).push { cls := .ref C, data := .fields #[.ref h.objs.size, .none, .none, .none, .bool false, .none] } = h1 at kp gt ge M ⊢
  generalize h.objs.size + 1 = e at ge M ⊢
  have L0 : PySem.W.Looks (model prog w) h1 (typeOf (.ref e)) (.ref C) := (PySem.W.Looks.ld ge).andThen .now
  have L1 := hl.keeps kp
  show wpAny _ _ _ _ _ _
  refine wpAny_bind ?_
  unfold isInstance
  refine wpAny_bind (L0.at (wpAny_isSubtype_exc (kp _ _ hC) ?_))
  rw [show (Value.ref C :: bm).contains (Value.ref C) = true by simp]
  simp only [Bool.not_true, Bool.false_eq_true, if_false]
  unfold callSpecial? specialOf
  refine wpAny_bind (wpAny_holding (wpAny_bind (wpAny_bind (L0.at (L1.at (wpAny_holding (wpAny_bind ?_)))))))
  unfold bindSpecial
  refine wpAny_bind (wpAny_typeOf (show (⟨h1, g, d, t, os⟩ : Shared).TypeIs (.ref fI) "function" from ⟨_, kp _ _ hf, hc⟩) ?_)
  rw [if_pos (by decide)]
  refine wpAny_pure (wpAny_bind (wpAny_mono (k h1 e M) (fun r s' z => ?_) fun _ _ z => z))
  obtain ⟨z1, z2⟩ := z
  subst z1
  refine wpAny_pure ?_
  dsimp only
  rw [if_neg (by decide)]
  exact wpAny_pure z2
theorem exc_make {Q : Value → Shared → Prop} (hC : h.get? C = some (excClassObj nm q C N bs bm hdct sn sub ab col dd k0 k1 k2 k3 k5 "ValueError.__new__")) (T : OwnTail h bmV bm) (hl : PySem.W.Looks (model prog w) h (typeLookup (.ref C) "__init__") (some (.ref fI)))
    (hf : h.get? fI = some oI) (hc : oI.cls = .type "function") (hz : rest.length ≤ sizeLine)
    (k : ∀ h' e, Heap.MadeExcOf h h' e (.ref C) rest → wpAny (model prog w) (A.under (.builtin "type.__call__" ⟨.ref C :: rest, []⟩)) (call (.ref fI) (.ref e :: rest)) (fun r s' => r = .none ∧ Q (.ref e) s') E ⟨h', g, d, t, os⟩) :
    wpAny (model prog w) A (call (.ref C) rest) Q E ⟨h, g, d, t, os⟩ := by
  have f1 := tc_lookup
  have f2 := tc_bind (.ref C)
  have hT : (⟨h, g, d, t, os⟩ : Shared).TypeIs (.ref C) "type" := ⟨_, hC, rfl⟩
  refine wpAny_call (codeAny_of_tree ?_)
  show wpAny _ _ (callAny (.ref C) _) _ _ _
  repeat (any_goals (first | wp_step | assumption | with_reducible refine wpAny_loadPart_at hC ?_))
  refine ⟨rfl, codeAny_call_builtin_at (Code.quiet_builtin _ (by decide +kernel)) entry_typeCall (wpAny_check_type_call_sub hC (exc_tcall hC T hl hf hc hz fun h' e m => k h' e m))⟩
end
end L2
set_option Elab.async false
set_option linter.all false
set_option maxRecDepth 100000
set_option maxHeartbeats 1000000
namespace L2
open PySem PySem.Spec PyProof.Rows XC
def ExN (a C : Addr) (dd : Option Addr) : HO := .ext fun h => ∃ o vs a0, h.get? a = some o ∧ o.cls = .ref C ∧ o.dict = dd ∧ o.data = .fields vs ∧ vs[0]? = some (.ref a0) ∧ vs[1]? = some .none
structure XI (K : PySem.W.Frag) (C fI : Addr) : Prop where
  obj : ∃ B N nm q bs hdct sn sub ab col dd k0 k1 k2 k3 k5, K.lookup C = some (excClassObj nm q C N bs (.ref B :: bmV) hdct sn sub ab col dd k0 k1 k2 k3 k5 "ValueError.__new__") ∧ PySem.W.excIn K B bmV "ValueError.__new__" = true
  ini : PySem.W.findIn K (.ref C) "__init__" = some (some (.ref fI))
  fn : PySem.W.isFn K (.ref fI) = true
theorem XI.here {K : PySem.W.Frag} {h : Heap} {C fI : Addr} (x : XI K C fI) (X : K.In h) : ∃ N nm q bs bm hdct sn sub ab col dd k0 k1 k2 k3 k5, h.get? C = some (excClassObj nm q C N bs bm hdct sn sub ab col dd k0 k1 k2 k3 k5 "ValueError.__new__") ∧ OwnTail h bmV bm := by
  obtain ⟨B, N, nm, q, bs, hdct, sn, sub, ab, col, dd, k0, k1, k2, k3, k5, e, b⟩ := x.obj
  obtain ⟨_, _, _, _, _, _, _, _, _, _, _, _, _, _, _, _, mN, hB, hN, hni, _⟩ := own_obj X b
  exact ⟨N, nm, q, bs, _, hdct, sn, sub, ab, col, dd, k0, k1, k2, k3, k5, X _ _ e, .own hB hN hni .base⟩
theorem upd_self {H : Hp} {a : Addr} {o : HO} (h : H a = some o) : upd H a o = H := by
  funext b
  unfold upd
  by_cases e : b = a
  · rw [if_pos e, e, h]
  · rw [if_neg e]
structure XB (K : PySem.W.Frag) (B : Addr) : Prop where
  ga : PySem.W.specialIn K (.ref B) "__getattribute__" = some (some (.builtin "type.__getattribute__"))
  rd : PySem.W.readsIn K B (.type "type") = true
  fc : PySem.W.findCls K (.ref B) (.type "type") "__init__" = some (.val (.builtin "ValueError.__init__"))
section
variable {X : Cx} {b : Str} {B : Addr} {bp apos pos spos : Pos} {e1 e2 : Expr} {ta : TA}
def tInitB (K : PySem.W.Frag) (ta : TA) : TS := fun D σ H => ta σ H fun vs H1 => ∃ x C fI v, vs = [.ref x, v] ∧ H1 x = some (ExN x C none) ∧ XI K C fI ∧ D.nx σ H1
theorem ps_initB {pl : Sem Bool} (hg : Gl X b) (hm : X.mg b = some (.ref B)) (xb : XB X.K B) (ha : PA X [e1, e2] ta) (hd : (b == ("__debug__" : Str)) = false := by decide)
    (hs : swapsWith (.Call (.Attribute (.Name b bp) "__init__" apos) [e1, e2] [] pos) none spos.line X.env = pure false := by rfl)
    (he : starEach [e1, e2] X.env = (false, eval e1 X.env) :: starEach [e2] X.env := by rfl) (hpl : (backTo pos (starEach [e2] X.env)).any (·.1) = false := by rfl)
    (ht : eval (.Call (.Attribute (.Name b bp) "__init__" apos) [e1, e2] [] pos) X.env = (do
      let ov ← eval (.Name b bp) X.env
      standAt apos.atName
      let (f, first) ← holding [ov] (getMethod ov "__init__" pl)
      callWith pos f first (backTo pos (starEach [e1, e2] X.env)) (backToKw pos (keywordEach [] X.env))) := by rfl) :
    PS X (.Expr (.Call (.Attribute (.Name b bp) "__init__" apos) [e1, e2] [] pos) spos) (tInitB X.K ta) := by
  intro pins s σ H D I h
  refine wpAny_Expr_any (Q := SP X pins D) ?_ I.quiet hs
  refine PySem.W.methodCall_KW (pl := pl) (ld_glob I hg hm ?_ hd) ht
  refine PySem.W.method_cls I.kIn xb.ga (PySem.W.cls_value I.kIn xb.rd xb.fc rfl ?_)
  refine PyProof.Rows.callWith_builtin1 (thn (ha pos pins _ σ H _ (I.tok _) h) fun us s1 ⟨vs, H1, I1, r, x, C, fI, v, ev, hx, xi, q⟩ => ?_) he hpl
  subst ev
  obtain ⟨u1, u2, rfl, r1, r2⟩ := vals2 r
  cases (show u1 = Value.ref x from r1)
  obtain ⟨⟨o, fs, a0, o1, o2, o3, o4, o5, o6⟩, _⟩ := I1.hok x _ hx
  obtain ⟨N, nm, q', bs, bm, hdct, sn, sub, ab, col, dd, k0, k1, k2, k3, k5, hC, T⟩ := xi.here I1.kIn
  obtain ⟨hh, g, d, t, os⟩ := s1
  refine exc_init hC T o1 o2 o4 o5 fun h' t' _ kp hx' => ?_
  have d2 := Obj.data_mapFields o4 (·.setIfInBounds 0 (Value.ref t'))
  have J : Inv X pins σ (upd H1 x (ExN x C none)) { (⟨hh, g, d, t, os⟩ : Shared) with heap := h', toks := t } := I1.write (e := x) (by rw [hx]; trivial) (.inl rfl) kp ⟨_, hx'⟩ ⟨⟨_, _, t', hx', (Obj.cls_mapFields _ _).trans o2, (dict_map o4).trans o3, d2, ?_, ?_⟩, ⟨_, hx'⟩, fun g1 g2 ⟨o, vs, a0, q, r⟩ k => ⟨o, vs, a0, k o q, r⟩⟩
  · rw [upd_self hx] at J
    exact ⟨σ, H1, J, q⟩
  · rw [Array.getElem?_setIfInBounds_self, if_pos (Array.getElem?_eq_some_iff.mp o5).1]
  · rw [Array.getElem?_setIfInBounds_ne (by decide)]
    exact o6
end
section
variable {X : Cx} {o value : Expr} {f : Str} {ta tv : TE} {pos pos' : Pos}
def sFldX (K : PySem.W.Frag) (ta tv : TE) (f : Str) : TS := fun D σ H => tv σ H fun y H1 => ta σ H1 fun x H2 => ∃ a C, x = .ref a ∧ H2 a = some (ExN a C none) ∧ XK1 K C ∧ XF K C f ∧ ∀ dx, H2 dx = none → D.nx σ (upd (upd H2 dx (.xd [(f, y)])) a (ExN a C (some dx)))
theorem ps_fldX (ha : PE X o ta) (hv : PE X value tv) (hs : swapsWith value (some (.Attribute o f pos')) pos.line X.env = pure false) : PS X (.Assign [.Attribute o f pos'] value pos) (sFldX X.K ta tv f) := by
  intro pins s σ H D I h
  refine plainObj_wpAny_Assign_Attribute (thn (hv pins s σ H _ I h) fun u s1 ⟨y, H1, I1, ry, q⟩ => thn (ha pins s1 σ H1 _ I1 q) fun ov s2 ⟨x, H2, I2, rx, a, C, ex, hx, k, xf, q2⟩ => ?_) hs
  subst ex
  obtain rfl : ov = Value.ref a := rx
  obtain ⟨⟨ob, fs, a0, o1, o2, o3, o4, o5, o6⟩, _⟩ := I2.hok a _ hx
  refine exc_set k xf I2.kIn o1 o2 o3 o4 fun h' dx tk edx kp hx' ne ns => ?_
  have fr : H2 dx = none := I2.hok.fresh (by rw [edx]; exact Nat.le_refl _)
  have lt : ∀ b u, s2.heap.get? b = some u → b ≠ dx := fun b u q z => by rw [z, edx] at q; exact absurd (Heap.lt_size q) (Nat.lt_irrefl _)
  have hne : ∀ b u, H2 b = some u → b ≠ dx := fun b u q => ne_of_none q fr
  have other : ∀ b, b ≠ a → b ≠ dx → upd (upd H2 dx (.xd [(f, y)])) a (ExN a C (some dx)) b = H2 b := fun b z1 z2 => by rw [upd_ne z1, upd_ne z2]
  have old : ∀ b v, H2 b = some v → v ≠ ExN a C none → b ≠ a := fun b v q z w => by rw [w, hx] at q; exact z (Option.some.inj q).symm
  refine ⟨σ, _, I2.un (t' := tk) ⟨fun b u q n _ _ => kp b u (fun z => by rw [z, hx] at n; cases n) q, fun b u q n _ _ => ⟨u.slots, kp b u (fun z => by rw [z, hx] at n; cases n) q⟩, fun b u q n _ => ?_, fun b u q _ => ?_, fun b xs q => ?_, fun b u xs q => ?_, fun b ps q => ⟨#[], ?_⟩⟩ fun b u q => ?_, q2 dx fr⟩
  · rw [other b (fun z => by rw [z, hx] at n; cases n) (lt b u q)]
    exact n
  · by_cases z : b = a
    · exact ⟨_, z ▸ hx'⟩
    · exact ⟨u, kp b u z q⟩
  · rw [other b (old b _ q (by intro z; cases z)) (hne b _ q)]
    exact q
  · rw [other b (old b _ q (by intro z; cases z)) (hne b _ q)]
    exact q
  · rw [other b (old b _ q (by intro z; cases z)) (hne b _ q), q]
    simp
  · by_cases z1 : b = a
    · subst z1
      rw [upd_same] at q
      cases q
      exact ⟨⟨_, fs, a0, hx', o2, rfl, o4, o5, o6⟩, ⟨_, hx'⟩, fun g1 g2 ⟨o, vs, a0, q, r⟩ k => ⟨o, vs, a0, k o q, r⟩⟩
    · by_cases z2 : b = dx
      · subst z2
        rw [upd_ne z1, upd_same] at q
        cases q
        refine ⟨_, ns, fun y' => ?_⟩
        by_cases ey : y' = f
        · subst ey
          rw [if_pos rfl, List.lookup_cons]
          simp [RelO]
          exact ry
        · rw [if_neg ey, List.lookup_cons]
          rw [show (y' == f) = false from by simpa using ey]
          simp [RelO]
      · rw [other b z1 z2] at q
        refine (I2.hok b u q).stay (fun c v hc r => kp c v ?_ r) (fun c r => ?_) fun c xs r => ?_
        · rcases hc with hc | hc
          · rw [hc]; exact z1
          · exact old c _ hc (by intro z; cases z)
        · rw [other c (old c _ r (by intro z; cases z)) (hne c _ r)]
          exact r
        · rw [other c (old c _ r (by intro z; cases z)) (hne c _ r)]
          exact r
def tFldX (K : PySem.W.Frag) (ta : TE) (f : Str) : TE := fun σ H Q => ta σ H fun x H1 => ∃ a C dx fs v, x = .ref a ∧ H1 a = some (ExO a C (some dx)) ∧ H1 dx = some (.xd fs) ∧ XK1 K C ∧ XF K C f ∧ fs.lookup f = some v ∧ Q v H1
theorem handed_rel {v : V} {u : Value} (r : RelV v u) : PySem.W.handedIn u = true := by
  cases v with
  | non => cases (show u = _ from r); rfl
  | bl b => cases (show u = _ from r); rfl
  | int i => obtain ⟨t, rfl⟩ := r; rfl
  | str x => obtain ⟨t, rfl⟩ := r; rfl
  | byt x => obtain ⟨t, rfl⟩ := r; rfl
  | flt x => obtain ⟨t, rfl⟩ := r; rfl
  | ref a => cases (show u = _ from r); rfl
  | ty n => cases (show u = _ from r); rfl
theorem pe_fldX {e : Expr} (he : PE X e ta) (hb : attributeBase e f X.env (eval e X.env) = eval e X.env) : PE X (.Attribute e f pos) (tFldX X.K ta f) := by
  intro pins s σ H Q I h
  refine attr_of hb (thn (he pins s σ H _ I h) fun u s1 ⟨x, H1, I1, rx, a, C, dx, fs, v, ex, hx, hdx, k, xf, l, q⟩ => ?_)
  subst ex
  obtain rfl : u = Value.ref a := rx
  obtain ⟨⟨ob, vs, o1, o2, o3, o4⟩, _⟩ := I1.hok a _ hx
  obtain ⟨mA, ns, rel⟩ := I1.hok dx _ hdx
  have rf := rel f
  rw [l] at rf
  cases em : mA f with
  | none => rw [em] at rf; exact False.elim rf
  | some w =>
    rw [em] at rf
    exact exc_get k xf I1.kIn o1 o2 o3 o4 ns em (handed_rel rf) fun tk => ⟨v, H1, I1.tok _, rf, q⟩
end
end L2
set_option Elab.async false
set_option linter.all false
set_option maxRecDepth 100000
set_option maxHeartbeats 1000000
namespace L2
open PySem PySem.Spec PyProof.Rows XC
def dropH (H : Hp) (a : Addr) : Hp := fun b => if b = a then none else H b
theorem drop_ne {H : Hp} {a b : Addr} (h : b ≠ a) : dropH H a b = H b := by unfold dropH; rw [if_neg h]
theorem drop_none {H : Hp} {a b : Addr} (h : H b = none) : dropH H a b = none := by unfold dropH; split <;> first | rfl | exact h
theorem drop_some {H : Hp} {a b : Addr} {o : HO} (h : dropH H a b = some o) : b ≠ a ∧ H b = some o := by
  unfold dropH at h
  split at h
  · cases h
  · rename_i z
    exact ⟨z, h⟩
theorem Inv.drop {X : Cx} {pins : List (Addr × Obj)} {σ : St} {H : Hp} {s : Shared} {a : Addr} {φ : Heap → Prop} (I : Inv X pins σ H s) (h : H a = some (.ext φ)) : Inv X pins σ (dropH H a) s := by
  have keep : ∀ b o, H b = some o → o ≠ .ext φ → dropH H a b = some o := fun b o q z => by
    rw [drop_ne fun w => by rw [w, h] at q; exact z (Option.some.inj q).symm]
    exact q
  refine ⟨I.ok, I.os, I.bare, ⟨fun b o q n => I.base.keep b o q n, fun b o q n => I.base.slot b o q n, fun b o q n hx => drop_none (I.base.free b o q n hx), I.base.there, fun b xs q => keep b _ (I.base.tups b xs q) (by intro z; cases z), fun b o xs q => keep b _ (I.base.frzs b o xs q) (by intro z; cases z), fun b ps q => ?_⟩, I.loc, I.cell, drop_none I.free, fun x c e => drop_none (I.freeC x c e), fun p hp => ?_, fun b o q => ?_, I.len⟩
  · obtain ⟨more, e⟩ := I.base.tbls b ps q
    exact ⟨more, keep b _ e (by intro z; cases z)⟩
  · obtain ⟨e, n, r⟩ := I.pin p hp
    exact ⟨e, drop_none n, r⟩
  · obtain ⟨z, q⟩ := drop_some q
    exact (I.hok b o q).stay (fun _ _ _ r => r) (fun c r => keep c _ r (by intro z; cases z)) fun c xs r => keep c _ r (by intro z; cases z)
theorem exc_raise {M : Model} {A : Around} {E : Value → Shared → Prop} {s : Shared} {K : PySem.W.Frag} {C : Addr} {env : Env} {x : Sem Value} {Q : Flow → Shared → Prop} (hh : A.handled = none) (k : XK1 K C)
    (h : wpAny M A x (fun v s1 => ∃ e oe vs, v = .ref e ∧ K.In s1.heap ∧ s1.heap.get? e = some oe ∧ oe.cls = .ref C ∧ oe.data = .fields vs ∧ vs[1]? = some .none ∧ E (.ref e) s1) E s) : wpAny M A (raiseStmt env (some x) none) Q E s := by
  unfold raiseStmt
  refine wpAny_bind (wpAny_mono h (fun v s1 z => ?_) fun _ _ z => z)
  obtain ⟨e, oe, vs, rfl, X, he, hc, hd, h1, hE⟩ := z
  obtain ⟨hp, g, d, t, os⟩ := s1
  have L0 : PySem.W.Looks M hp (typeOf (.ref e)) (.ref C) := hc ▸ (PySem.W.Looks.ld he).andThen .now
  have L1 : PySem.W.Looks M hp (isType (.ref e)) false := by
    intro A' Q' E' s' kp q
    unfold isType loadHead
    refine wpAny_bind (wpAny_loadPart (kp _ _ he) ?_)
    rw [hd]
    exact wpAny_pure q
  have L2 : PySem.W.Looks M hp (isInstance (.ref e) (.type "BaseException")) true := L0.andThen (PySem.W.looks_mroIn X k.base)
  have L3 := PySem.W.looks_typeIn (M := M) X k.ty
  refine wpAny_bind (wpAny_pure (wpAny_bind (wpAny_holding ?_)))
  unfold excFromValue isExcClass
  refine wpAny_bind (wpAny_bind (L1.at ?_))
  simp only [Bool.false_eq_true, if_false]
  refine wpAny_pure (wpAny_bind (L2.at ?_))
  simp only [if_true]
  refine wpAny_pure ?_
  refine wpAny_bind (L1.at ?_)
  simp only [Bool.false_eq_true, if_false]
  unfold raisedInstance
  refine wpAny_bind (wpAny_bind (L0.at (wpAny_bind (L3.at ?_))))
  rw [if_pos (by decide)]
  refine wpAny_pure (wpAny_bind ?_)
  unfold setFlight
  refine wpAny_bind (wpAny_field he hd h1 ?_)
  rw [if_neg (by decide)]
  exact wpAny_pure (wpAny_raiseNew_none hh hE)
def spInit (C : Addr) (f : Str) : Sp := fun vs H Q _ => ∃ e v, vs = [.ref e, v] ∧ H e = some (ExN e C none) ∧ ∀ dx, H dx = none → Q .non (upd (upd H dx (.xd [(f, v)])) e (ExN e C (some dx)))
structure XCl (P : Program) (w : World) (K : PySem.W.Frag) (mg : Str → Option Value) (base : Heap) (k : Nat) (C : Addr) (f : Str) (ps : List Str) : Prop where
  ex : ∃ fI fd, FnOk P w K mg base CX0 k fI fd ps (spInit C f) ∧ XI K C fI ∧ PySem.W.keepIn K (.ref C) = true ∧ Binds K fd ps []
def HasX (K : PySem.W.Frag) (C : Addr) (qual : Str) (st : Stmt) : Prop := ∃ f fd, Fun K "__init__" qual st f fd ∧ XI K C f ∧ PySem.W.keepIn K (.ref C) = true
theorem XCl.of {P : Program} {w : World} {K : PySem.W.Frag} {mg : Str → Option Value} {base : Heap} {C : Addr} {f qual : Str} {st : Stmt} {N ps : List Str} {k : Nat} (T : HasX K C qual st) (S : FnScope N ps (defScope st)) (hps : ps.length = 2)
    (hb : ∀ (kV doc pm : Value) (an : Option Addr) (cdv ct : Value) (us : List Value), us.length = ps.length → bindArgs (PySem.W.fnOf "__init__" qual (defArgs st) (defBody st) (defScope st) .none kV doc pm an cdv ct) ⟨us, []⟩ = pure (ps.zip us))
    (hbody : ∀ (f' : Addr) (cdv : Value) (A : Around) (outer : List Env) (s : Shared) (H : Hp) (vs : List V) (Q : VK) (E : XK), XI K C f' → Room k (A.deeper (envOfC qual (defScope st) s.heap.objs.size f' cdv)) → spInit C f vs H Q E →
      ∃ t, PSs (cxOf CX0 P w K mg base N qual (defScope st) f' cdv A outer s H E).nox (defBody st) t ∧ t { nx := fun _ H' => Q .non H', rt := Q } (start N vs) H) : XCl P w K mg base (k + 1) C f ps := by
  obtain ⟨fI, fd, F, x, kp⟩ := T
  refine ⟨fI, fd, F.ok S (fun vs H Q E h => ?_) (fun cdv A outer s H vs Q E => hbody fI cdv A outer s H vs Q E x), x, kp, F.binds hb⟩
  obtain ⟨e, v, rfl, _⟩ := h
  exact hps.symm
section
variable {P : Program} {w : World} {K : PySem.W.Frag} {mg : Str → Option Value} {base : Heap} {N : List Str} {qual : Str} {scope : Scope} {f : Addr} {cd : Value} {A : Around} {outer : List Env} {s : Shared} {H : Hp} {E : XK}
theorem ps_raise1 {x : Str} {C : Addr} {fl : Str} {ps : List Str} {j k : Nat} {e1 : Expr} {ta : TA} {np cpos pos : Pos} (M : XCl P w K mg base j C fl ps) (hr : Room k (cxOf (CXe P w) P w K mg base N qual scope f cd A outer s H E).A) (hg : Gl (cxOf (CXe P w) P w K mg base N qual scope f cd A outer s H E) x) (hm : mg x = some (.ref C)) (k1 : XK1 K C)
    (ha : PA (cxOf (CXe P w) P w K mg base N qual scope f cd A outer s H E) [e1] ta) (hjk : j + 1 ≤ k := by decide) (hd : (x == ("__debug__" : Str)) = false := by decide)
    (he : starEach [e1] (cxOf (CXe P w) P w K mg base N qual scope f cd A outer s H E).env = (false, eval e1 (cxOf (CXe P w) P w K mg base N qual scope f cd A outer s H E).env) :: starEach [] (cxOf (CXe P w) P w K mg base N qual scope f cd A outer s H E).env := by rfl) :
    PS (cxOf (CXe P w) P w K mg base N qual scope f cd A outer s H E) (.Raise (some (.Call (.Name x np) [e1] [] cpos)) none pos) (fun _ σ H' => ta σ H' fun vs H2 => ∃ v, vs = [v] ∧ ∀ dx, H2 dx = none → E (.ref C) (some dx) (upd H2 dx (.xd [(fl, v)]))) := by
  intro pins s1 σ H1 D I h
  obtain ⟨fI, fd, F, xi, kp, hb⟩ := M.ex
  rw [arm_exec_Raise]
  refine wpAny_bind (wpAny_standAt (exc_raise (K := K) (C := C) (I.ok.hd rfl) k1 ?_))
  refine wpAny_bind (wpAny_mono (wpAny_Call_Name_kw (ld_glob I hg hm ?_ hd)) (fun v s2 z => wpAny_bind (wpAny_standAt (wpAny_pure z))) fun _ _ z => z)
  refine PySem.W.callWith_K (h₀ := base) I.ok.mod.kin kp (thn (ha cpos pins s1 σ H1 _ I h) fun us s2 ⟨vs, H2, I2, r, v, ev, q⟩ => ⟨I2.kIn, ?_⟩) he rfl
  subst ev
  obtain ⟨u, rfl, ru⟩ := vals1 r
  obtain ⟨N', nm, q', bs, bm, hdct, sn, sub, ab, col, dd, k0, k1', k2, k3, k5, hC, T⟩ := xi.here I2.kIn
  have tf : PySem.W.typeIn K (.ref fI) = some (.type "function") := beq_iff_eq.mp xi.fn
  obtain ⟨oI, hI, cI⟩ := Option.map_eq_some_iff.mp tf
  obtain ⟨hh, g, d, t, os⟩ := s2
  refine exc_make hC T (PySem.W.looks_findIn I2.kIn xi.ini) (I2.kIn _ _ hI) cI (by show 1 ≤ sizeLine; decide) fun h' e m => ?_
  have G : Gone (cxOf (CXe P w) P w K mg base N qual scope f cd A outer s H E).stack e [] hh h' := ⟨fun b o q _ _ _ => m.keeps b o q, fun b o q _ => ⟨o.slots, m.keeps b o q⟩⟩
  have ne : H2 e = none := HOk.un_at I2.hok m.new
  obtain ⟨t0, ge, _⟩ := m.there
  have I3 : Inv (cxOf (CXe P w) P w K mg base N qual scope f cd A outer s H E) pins σ (upd H2 e (ExN e C none)) ⟨h', g, d, t, os⟩ := I2.flown (t' := t) rfl rfl rfl G (I2.fr1 rfl m.new) (fun b z => by cases z) ne (.inr ⟨_, rfl⟩) ((I2.hok.kept m.keeps).take ne ⟨⟨_, _, t0, ge, rfl, rfl, rfl, rfl, rfl⟩, ⟨_, ge⟩, fun g1 g2 ⟨o, vs, a0, q, r⟩ k => ⟨o, vs, a0, k o q, r⟩⟩)
  have hsp : spInit C fl [.ref e, v] (upd H2 e (ExN e C none)) (fun v' H' => v' = .non ∧ ∃ dx, H2 dx = none ∧ dx ≠ e ∧ H' = upd (upd (upd H2 e (ExN e C none)) dx (.xd [(fl, v)])) e (ExN e C (some dx))) E0 := ⟨e, v, rfl, upd_same, fun dx hdx => by
    have z : dx ≠ e := fun z => by rw [z, upd_same] at hdx; cases hdx
    rw [upd_ne z] at hdx
    exact ⟨rfl, dx, hdx, z, rfl⟩⟩
  refine wpAny_call (codeAny_mono (F.run _ (cxOf (CXe P w) P w K mg base N qual scope f cd A outer s H E).stack ⟨h', g, d, t, os⟩ _ ⟨[.ref e, u], []⟩ [.ref e, u] [.ref e, v] _ E0 ((hr.mono hjk).make C [u] []) (I3.env0.make C [u] []) (hb _ [.ref e, u] I3.kIn (F.len _ _ _ _ hsp)) (.cons rfl (.cons ru .nil)) hsp) fun r s3 hq => ?_)
  cases r with
  | error z => exact False.elim hq
  | ok fw =>
    cases fw with
    | next => exact False.elim hq
    | brk => exact False.elim hq
    | cont => exact False.elim hq
    | ret uu =>
      obtain ⟨v', H', I4, rv, ev, dx, hdx, ne2, eH⟩ := I3.after hq
      subst ev
      subst eH
      obtain ⟨⟨oe, fs, a0, o1, o2, o3, o4, o5, o6⟩, _⟩ := I4.hok e _ upd_same
      refine ⟨rv, e, oe, fs, rfl, I4.kIn, o1, o2, o4, o6, ?_⟩
      have I5 := I4.drop (a := e) upd_same
      have eD : dropH (upd (upd (upd H2 e (ExN e C none)) dx (.xd [(fl, v)])) e (ExN e C (some dx))) e = upd H2 dx (.xd [(fl, v)]) := by
        funext b
        by_cases z : b = e
        · rw [z]
          unfold dropH
          rw [if_pos rfl, upd_ne (Ne.symm ne2), ne]
        · rw [drop_ne z, upd_ne z]
          by_cases z2 : b = dx
          · rw [z2, upd_same, upd_same]
          · rw [upd_ne z2, upd_ne z2, upd_ne z]
      rw [eD] at I5
      exact fly_first I5 o1 o4 o6 (I2.up rfl m.new) (by rw [upd_ne (Ne.symm ne2)]; exact ne) (by rw [o2, o3]; exact q dx hdx)
end
end L2
set_option Elab.async false
set_option linter.all false
set_option maxRecDepth 100000
set_option maxHeartbeats 8000000
namespace K57
open PySem L2 PyProof.Rows
def top (i : Nat) : Stmt := PySem.Challenge.pw_bundlehouse_k57_many_groups.main.body.getD i (.Pass ⟨0, 0, 0, 0⟩)
abbrev s_TooMany___init__ : Stmt := inClass (top 10) 0
theorem sc_TooMany___init__ : FnScope ["self", "parts"] ["self", "parts"] (defScope s_TooMany___init__) := ⟨rfl, rfl, rfl, by decide +kernel, rfl, by decide +kernel, by decide +kernel⟩
abbrev s_price : Stmt := top 15
theorem sc_price : FnScope ["groups", "toll", "cut"] ["groups", "toll", "cut"] (defScope s_price) := ⟨rfl, rfl, rfl, by decide +kernel, rfl, by decide +kernel, by decide +kernel⟩
abbrev s_pack_price : Stmt := top 16
theorem sc_pack_price : FnScope ["groups", "toll", "pack", "colour", "rows", "number"] ["groups", "toll", "pack"] (defScope s_pack_price) := ⟨rfl, rfl, rfl, by decide +kernel, rfl, by decide +kernel, by decide +kernel⟩
abbrev s_numbers_in : Stmt := top 17
theorem sc_numbers_in : FnScope ["whole"] ["whole"] (defScope s_numbers_in) := ⟨rfl, rfl, rfl, by decide +kernel, rfl, by decide +kernel, by decide +kernel⟩
abbrev s_tight : Stmt := top 18
theorem sc_tight : FnScope ["groups"] ["groups"] (defScope s_tight) := ⟨rfl, rfl, rfl, by decide +kernel, rfl, by decide +kernel, by decide +kernel⟩
abbrev s_single : Stmt := top 19
theorem sc_single : FnScope ["groups"] ["groups"] (defScope s_single) := ⟨rfl, rfl, rfl, by decide +kernel, rfl, by decide +kernel, by decide +kernel⟩
abbrev s_table : Stmt := top 20
theorem sc_table : FnScope ["groups", "toll"] ["groups", "toll"] (defScope s_table) := ⟨rfl, rfl, rfl, by decide +kernel, rfl, by decide +kernel, by decide +kernel⟩
abbrev s_cheapest : Stmt := top 21
theorem sc_cheapest : FnScope ["groups", "toll", "apart", "together"] ["groups", "toll"] (defScope s_cheapest) := ⟨rfl, rfl, rfl, by decide +kernel, rfl, by decide +kernel, by decide +kernel⟩
abbrev s_best_packs : Stmt := top 22
theorem sc_best_packs : FnScope ["groups", "toll", "prices", "best", "place"] ["groups", "toll"] (defScope s_best_packs) := ⟨rfl, rfl, rfl, by decide +kernel, rfl, by decide +kernel, by decide +kernel⟩
abbrev s_first_packs : Stmt := top 23
theorem sc_first_packs : FnScope ["place", "first"] ["place"] (defScope s_first_packs) := ⟨rfl, rfl, rfl, by decide +kernel, rfl, by decide +kernel, by decide +kernel⟩
abbrev s_law_cell_at : Stmt := top 26
theorem sc_law_cell_at : FnScope ["_law_script", "_law_k"] ["_law_script", "_law_k"] (defScope s_law_cell_at) := ⟨rfl, rfl, rfl, by decide +kernel, rfl, by decide +kernel, by decide +kernel⟩
abbrev s_law_whole : Stmt := top 27
theorem sc_law_whole : FnScope ["_law_found"] ["_law_found"] (defScope s_law_whole) := ⟨rfl, rfl, rfl, by decide +kernel, rfl, by decide +kernel, by decide +kernel⟩
abbrev s_law_mixed : Stmt := top 28
theorem sc_law_mixed : FnScope ["_law_cell", "_law_k", "_law_prime"] ["_law_cell", "_law_k", "_law_prime"] (defScope s_law_mixed) := ⟨rfl, rfl, rfl, by decide +kernel, rfl, by decide +kernel, by decide +kernel⟩
abbrev s_law_groups : Stmt := top 29
theorem sc_law_groups : FnScope ["_law_script", "_law_first", "_law_many", "_law_wide", "_law_found", "_law_seen", "_law_k", "_law_cell", "_law_number", "_law_shade", "_law_size"] ["_law_script", "_law_first", "_law_many", "_law_wide"] (defScope s_law_groups) := ⟨rfl, rfl, rfl, by decide +kernel, rfl, by decide +kernel, by decide +kernel⟩
abbrev s_law_toll : Stmt := top 30
theorem sc_law_toll : FnScope ["_law_cell"] ["_law_cell"] (defScope s_law_toll) := ⟨rfl, rfl, rfl, by decide +kernel, rfl, by decide +kernel, by decide +kernel⟩
abbrev s_law_ones : Stmt := top 31
theorem sc_law_ones : FnScope ["_law_number", "_law_found"] ["_law_number"] (defScope s_law_ones) := ⟨rfl, rfl, rfl, by decide +kernel, rfl, by decide +kernel, by decide +kernel⟩
abbrev s_law_paid : Stmt := top 32
theorem sc_law_paid : FnScope ["_law_told", "_law_toll_here", "_law_cut", "_law_spent", "_law_pack", "_law_shades", "_law_load", "_law_number"] ["_law_told", "_law_toll_here", "_law_cut"] (defScope s_law_paid) := ⟨rfl, rfl, rfl, by decide +kernel, rfl, by decide +kernel, by decide +kernel⟩
abbrev s_law_is_cut : Stmt := top 33
theorem sc_law_is_cut : FnScope ["_law_found", "_law_many", "_law_numbers_here", "_law_firsts", "_law_pack", "_law_number"] ["_law_found", "_law_many"] (defScope s_law_is_cut) := ⟨rfl, rfl, rfl, by decide +kernel, rfl, by decide +kernel, by decide +kernel⟩
abbrev s_law_numbers : Stmt := top 34
theorem sc_law_numbers : FnScope ["_law_found", "_law_many"] ["_law_found", "_law_many"] (defScope s_law_numbers) := ⟨rfl, rfl, rfl, by decide +kernel, rfl, by decide +kernel, by decide +kernel⟩
abbrev s_law_even : Stmt := top 35
theorem sc_law_even : FnScope ["_law_told", "_law_way", "_law_shades", "_law_bits", "_law_sizes", "_law_loads", "_law_shade", "_law_names", "_law_size", "_law_times", "_law_even_here"] ["_law_told", "_law_way"] (defScope s_law_even) := ⟨rfl, rfl, rfl, by decide +kernel, rfl, by decide +kernel, by decide +kernel⟩
abbrev s_law_refused : Stmt := top 36
theorem sc_law_refused : FnScope ["_law_told", "_law_toll_here", "_law_caught", "e"] ["_law_told", "_law_toll_here"] (defScope s_law_refused) := ⟨rfl, rfl, rfl, by decide +kernel, rfl, by decide +kernel, by decide +kernel⟩
abbrev s_law : Stmt := top 37
theorem sc_law : FnScope ["_law_script", "_law_many", "_law_drawn", "_law_toll_here", "_law_told", "_law_found", "_law_each", "_law_both", "_law_due", "_law_shades", "_law_refused_here"] ["_law_script"] (defScope s_law) := ⟨rfl, rfl, rfl, by decide +kernel, rfl, by decide +kernel, by decide +kernel⟩
structure Adr where
  BundleError : Addr
  TooMany : Addr
  Asks : Addr
  Endless : Addr
  NoMap : Addr
  NoName : Addr
  NoPart : Addr
  NoPlace : Addr
  NoRow : Addr
  NotGiven : Addr
  Twice : Addr
structure XTxt (K : PySem.W.Frag) (mg : Str → Option Value) (A : Adr) : Prop where
  m_BundleError : mg "BundleError" = some (.ref A.BundleError)
  m_TooMany : mg "TooMany" = some (.ref A.TooMany)
  m_Asks : mg "Asks" = some (.ref A.Asks)
  m_Endless : mg "Endless" = some (.ref A.Endless)
  m_NoMap : mg "NoMap" = some (.ref A.NoMap)
  m_NoName : mg "NoName" = some (.ref A.NoName)
  m_NoPart : mg "NoPart" = some (.ref A.NoPart)
  m_NoPlace : mg "NoPlace" = some (.ref A.NoPlace)
  m_NoRow : mg "NoRow" = some (.ref A.NoRow)
  m_NotGiven : mg "NotGiven" = some (.ref A.NotGiven)
  m_Twice : mg "Twice" = some (.ref A.Twice)
  k_BundleError : XK1 K A.BundleError
  k_TooMany : XK1 K A.TooMany
  i_self : PySem.W.kitOne K (.ref A.TooMany) (.ref A.TooMany) = some true
  i_val : PySem.W.kitOne K (.ref A.TooMany) (.type "ValueError") = some true
  i_oth : PySem.W.kitAny K (.ref A.TooMany) [.ref A.Asks, .ref A.Endless, .ref A.NoMap, .ref A.NoName, .ref A.NoPart, .ref A.NoPlace, .ref A.NoRow, .ref A.NotGiven, .ref A.Twice] = some false
  s_TooMany : PySem.W.mroIn K A.TooMany (.ref A.BundleError) = some true
  x_TooMany : HasX K A.TooMany "TooMany.__init__" s_TooMany___init__
  f_TooMany : XF K A.TooMany "parts"
  b_BundleError : XB K A.BundleError
structure Txt (K : PySem.W.Frag) (mg : Str → Option Value) : Prop where
  n_len : mg "len" = none
  n_range : mg "range" = none
  n_str : mg "str" = none
  n_tuple : mg "tuple" = none
  n_list : mg "list" = none
  n_isinstance : mg "isinstance" = none
  n_int : mg "int" = none
  n_bool : mg "bool" = none
  n_min : mg "min" = none
  n_max : mg "max" = none
  n_sum : mg "sum" = none
  n_sorted : mg "sorted" = none
  n_ValueError : mg "ValueError" = none
  g_MOST_GROUPS : ∃ u, mg "MOST_GROUPS" = some u ∧ RelV (.int 8) u
  d_price : HasDef K mg "price" s_price
  d_pack_price : HasDef K mg "pack_price" s_pack_price
  d_numbers_in : HasDef K mg "numbers_in" s_numbers_in
  d_tight : HasDef K mg "tight" s_tight
  d_single : HasDef K mg "single" s_single
  d_table : HasDef K mg "table" s_table
  d_cheapest : HasDef K mg "cheapest" s_cheapest
  d_best_packs : HasDef K mg "best_packs" s_best_packs
  d_first_packs : HasDef K mg "first_packs" s_first_packs
  d_law_cell_at : HasDef K mg "_law_cell_at" s_law_cell_at
  d_law_whole : HasDef K mg "_law_whole" s_law_whole
  d_law_mixed : HasDef K mg "_law_mixed" s_law_mixed
  d_law_groups : HasDef K mg "_law_groups" s_law_groups
  d_law_toll : HasDef K mg "_law_toll" s_law_toll
  d_law_ones : HasDef K mg "_law_ones" s_law_ones
  d_law_paid : HasDef K mg "_law_paid" s_law_paid
  d_law_is_cut : HasDef K mg "_law_is_cut" s_law_is_cut
  d_law_numbers : HasDef K mg "_law_numbers" s_law_numbers
  d_law_even : HasDef K mg "_law_even" s_law_even
  d_law_refused : HasDef K mg "_law_refused" s_law_refused
  xs : ∃ A : Adr, XTxt K mg A
section
variable {P : Program} {w : World} {K : PySem.W.Frag} {mg : Str → Option Value} {base : Heap}
theorem pe_globS {X : Cx} {x : Str} {v : V} {pos : Pos} (h : ∃ u, X.mg x = some u ∧ RelV v u) (hg : Gl X x) (hd : (x == ("__debug__" : Str)) = false := by decide) : PE X (.Name x pos) (tC v) := by
  obtain ⟨u, hm, r⟩ := h
  exact pe_glob hg hm r hd
theorem tand_pure {t u : TT} {σ : L2.St} {H : Hp} {a b : Bool} (ht : ∀ Q : Bool → Hp → Prop, Q a H → t σ H Q) (hu : ∀ Q : Bool → Hp → Prop, Q b H → u σ H Q) : ∀ Q : Bool → Hp → Prop, Q (a && b) H → tAnd t u σ H Q := fun Q h => by
  refine ht _ ?_
  cases a with
  | true => exact iteT (hu _ h)
  | false => exact iteF h
theorem nodup_lenG {α : Type} [DecidableEq α] : ∀ (l N : List α), l.Nodup → (∀ x ∈ l, x ∈ N) → l.length ≤ N.length
  | [], N, _, _ => Nat.zero_le _
  | a :: r, N, hn, hs => by
    rw [List.nodup_cons] at hn
    have ha : a ∈ N := hs a List.mem_cons_self
    have h1 := nodup_lenG r (N.erase a) hn.2 fun x hx => (List.mem_erase_of_ne (fun z => hn.1 (by rw [← z]; exact hx))).mpr (hs x (List.mem_cons_of_mem _ hx))
    rw [List.length_erase_of_mem ha] at h1
    have : 0 < N.length := List.length_pos_of_mem ha
    simp only [List.length_cons]; omega
def mixM (c k p : Int) : Int := (c * 48271 + 7919 * k * k + 101 * k) % p
def spCell (K : PySem.W.Frag) : Sp := fun vs H Q _ => ∃ (a : Addr) (ns : List Int) (k : Int), vs = [.ref a, .int k] ∧ SqL K H a (ns.map V.int) ∧ 0 ≤ k ∧ ∀ c : Int, Q (.int c) H
theorem ok_cell (T : Txt K mg) : L2.Cl P w K mg base 1 "_law_cell_at" ["_law_script", "_law_k"] (spCell K) := by
  refine Cl.of T.d_law_cell_at sc_law_cell_at (fun vs H Q E h => ?_) (fun _ _ _ _ _ _ us hl => match us, hl with | [_, _], _ => rfl) (fun f cdv A outer s H vs Q E hr h => ?_)
  · obtain ⟨a, ns, k, rfl, _⟩ := h
    rfl
  · obtain ⟨a, ns, k, rfl, hS, hk, q⟩ := h
    refine ⟨_, (pss_cons (ps_if (pt_cmpR op_lt (pv 1) (pe_callB call_len_seq (by rfl) T.n_len PySem.boot_len (pa_cons (pv 0) pa_nil)) (nomark _))
        (pss_one (ps_ret (pe_ix ix_list (pv 0) (pv 1) (fun _ _ => rfl)))) pss_nil)
      (pss_one (ps_ret pe_int))), ?_⟩
    refine ⟨_, rfl, _, rfl, a, _, rfl, .inl hS, _, _, rfl, rfl, _, rfl, ?_⟩
    refine ite2 (fun hlt => ?_) (fun hlt => ?_)
    · have hlt' : k < (ns.length : Int) := by simpa using hlt
      refine ⟨_, rfl, _, rfl, a, _, _, _, rfl, rfl, hS, atI_map V.int ns 0 hk hlt', ?_⟩
      exact q _
    · exact q 0
def spMixed : Sp := fun vs H Q _ => ∃ c k p : Int, vs = [.int c, .int k, .int p] ∧ 0 ≤ k ∧ k < 1000 ∧ 0 < p ∧ Q (.int (mixM c k p)) H
theorem ok_mixed (T : Txt K mg) : L2.Cl P w K mg base 1 "_law_mixed" ["_law_cell", "_law_k", "_law_prime"] spMixed := by
  refine Cl.of T.d_law_mixed sc_law_mixed (fun vs H Q E h => ?_) (fun _ _ _ _ _ _ us hl => match us, hl with | [_, _, _], _ => rfl) (fun f cdv A outer s H vs Q E hr h => ?_)
  · obtain ⟨c, k, p, rfl, _⟩ := h
    rfl
  · obtain ⟨c, k, p, rfl, hk, hk2, hp, q⟩ := h
    refine ⟨_, (pss_one (ps_ret (pe_op op_mod (pe_op op_add (pe_op op_add (pe_op op_mul (pv 0) pe_int) (pe_op op_mul (pe_op op_mul pe_int (pv 1)) (pv 1))) (pe_op op_mul pe_int (pv 1))) (pv 2)))), ?_⟩
    exact ⟨_, rfl, _, _, rfl, rfl, .inr ⟨by decide, by decide⟩, _, rfl, _, _, rfl, rfl, .inl ⟨by decide, by decide⟩, _, rfl, _, _, rfl, rfl, .inr ⟨by omega, by omega⟩, _, _, rfl, rfl, _, rfl, _, _, rfl, rfl, .inl ⟨by decide, by decide⟩, _, _, rfl, rfl, _, rfl, _, _, rfl, rfl, hp, q⟩
theorem to_g {X R : TS} {D : Ends} {r : VK} {b k : L2.St → Hp → Prop} {i : Nat} {v : V} {σ : L2.St} {H : Hp} (h : tSeq X R D (σ.set i (some v)) H) : gName i v σ H (Ends.nx ⟨tSeq X R D, r, b, k⟩) := h
theorem log_small {n : Nat} (h : n < 100) : ((n : Int)).natAbs.log2 < 1920 := log_ok (by omega) (by omega)
theorem vN_len : ∀ n : Nat, n < 100 → (Str.ofString (toString ((n : Nat) : Int))).length ≤ 8 := by decide +kernel
theorem g_if_any {t : TT} {te : TE} {R : TS} {D : Ends} {r : VK} {b k : L2.St → Hp → Prop} {i : Nat} {v : V} {σ : L2.St} {H : Hp} {Pv : V → Prop} (ht : ∀ Q : Bool → Hp → Prop, (∀ a, Q a H) → t (σ.set i (some v)) H Q) (hA : ∀ Q : VK, (∀ x, Pv x → Q x H) → te (σ.set i (some v)) H Q) (hv : Pv v) (h : ∀ y, Pv y → R D (σ.set i (some y)) H) : gName i v σ H (Ends.nx ⟨tSeq (tIfS t (tAsg te (gName i)) tNext) R D, r, b, k⟩) := by
  refine ht _ fun a => ?_
  cases a with
  | true =>
    refine iteT (hA _ fun x hx => ?_)
    show R D ((σ.set i (some v)).set i (some x)) H
    rw [List.set_set]
    exact h x hx
  | false => exact iteF (h v hv)
theorem b1060 : ((10 : Int) ^ 60) = 1000000000000000000000000000000000000000000000000000000000000 := by decide
def natsV (l : List Nat) : List V := l.map fun (m : Nat) => V.int (m : Int)
theorem natsV_snoc (l : List Nat) (m : Nat) : natsV (l ++ [m]) = natsV l ++ [.int (m : Int)] := by unfold natsV; simp
theorem natsV_len (l : List Nat) : (natsV l).length = l.length := by unfold natsV; simp
theorem natsV_flat : ∀ l : List Nat, (natsV l).all flatV = true
  | [] => rfl
  | a :: r => by
    have := natsV_flat r
    unfold natsV at this ⊢
    rw [List.map_cons, List.all_cons, this]
    rfl
theorem bitOr_nat (a b : Nat) : Builtin.bitOr (a : Int) (b : Int) = ((a ||| b : Nat) : Int) := by
  have n1 : ¬ (0 : Int) ≤ Builtin.bitNot (a : Int) := by unfold Builtin.bitNot; omega
  have n2 : ¬ (0 : Int) ≤ Builtin.bitNot (b : Int) := by unfold Builtin.bitNot; omega
  have inv : ∀ x : Int, Builtin.bitNot (Builtin.bitNot x) = x := fun x => by unfold Builtin.bitNot; omega
  show Builtin.bitNot (Builtin.bitAnd (Builtin.bitNot (a : Int)) (Builtin.bitNot (b : Int))) = _
  rw [bitAnd_nn n1 n2, inv, inv, inv, Int.toNat_natCast, Int.toNat_natCast]
def tTru (K : PySem.W.Frag) (ta : TE) : TT := fun σ H Q => ta σ H fun x H' => ∃ k, TruV K x H' k ∧ Q k H'
theorem pt_truthK {X : Cx} {K : PySem.W.Frag} (hK : X.K = K) {a : Expr} {ta : TE} (ha : PE X a ta) (he : ∀ whole, isTrue a X.env whole = (do let v ← whole; standAt a.pos; holding [v] (truthy v))) :
    PT X a (tTru K ta) := by
  subst hK
  exact pt_truth ha he
theorem tb (c a : Nat) : (Builtin.bitAnd ((c : Int) / 2 ^ ((a : Nat) : Int).toNat) 1 != 0) = c.testBit a := by
  have e : (c : Int) / 2 ^ ((a : Nat) : Int).toNat = ((c / 2 ^ a : Nat) : Int) := by
    rw [Int.toNat_natCast]
    simp
  rw [e, bitAnd_pp (Int.natCast_nonneg _) (by decide), Int.toNat_natCast, Nat.testBit_eq_decide_div_mod_eq]
  have e2 : (1 : Int).toNat = 1 := rfl
  rw [e2, Nat.and_one_is_mod, Bool.eq_iff_iff, decide_eq_true_iff]
  rw [bne_iff_ne]
  omega
def onesN (n : Nat) : Nat := if h : n = 0 then 0 else n % 2 + onesN (n / 2)
termination_by n
decreasing_by exact Nat.div_lt_self (by omega) (by decide)
theorem ones_0 : onesN 0 = 0 := by rw [onesN, dif_pos rfl]
theorem ones_p {n : Nat} (h : n ≠ 0) : onesN n = n % 2 + onesN (n / 2) := by rw [onesN, dif_neg h]
theorem ones_all (n : Nat) : onesN n = n % 2 + onesN (n / 2) := by
  by_cases h : n = 0
  · subst h
    rw [show (0 : Nat) / 2 = 0 from rfl, ones_0]
  · exact ones_p h
theorem count_bits : ∀ (n c : Nat), c < 2 ^ n → ((List.range n).filter fun i => c.testBit i).length = onesN c
  | 0, c, h => by
    have : c = 0 := by simpa using h
    subst this
    rw [ones_0]
    rfl
  | n + 1, c, h => by
    have ih := count_bits n (c / 2) (by rw [Nat.pow_succ] at h; omega)
    rw [ones_all c, ← ih, List.range_succ_eq_map, List.filter_cons]
    have e : (((List.range n).map Nat.succ).filter fun i => c.testBit i).length = ((List.range n).filter fun i => (c / 2).testBit i).length := by
      rw [List.filter_map, List.length_map]
      congr 1
      refine List.filter_congr fun i _ => ?_
      show c.testBit (i + 1) = _
      rw [Nat.testBit_succ]
    have e0 : c.testBit 0 = decide (c % 2 = 1) := Nat.testBit_zero c
    rw [e0]
    by_cases h1 : c % 2 = 1
    · rw [if_pos (decide_eq_true h1), List.length_cons, e, h1]
      omega
    · rw [if_neg (by simp [h1]), e]
      omega
theorem bits_lt (c : Nat) : c < 2 ^ (Builtin.Int.intBits (c : Int)) := by
  have := (PySem.intBits_le_iff (m := Builtin.Int.intBits (c : Int)) (x := (c : Int))).mp (Nat.le_refl _)
  simpa using this
theorem bits_few {c : Nat} (h : c < 2 ^ 24) : Builtin.Int.intBits (c : Int) ≤ 24 := (PySem.intBits_le_iff (m := 24) (x := (c : Int))).mpr (by simpa using h)
def spIn : Sp := fun vs H Q _ => ∃ c : Nat, vs = [.int (c : Int)] ∧ c < 2 ^ 24 ∧ ∀ (p : Addr) (ys : List V) (H' : Hp), Same H H' → H' p = some (.tup ys) → ys.length = onesN c → ys.length ≤ 24 → Q (.ref p) H'
theorem ok_in (T : Txt K mg) : L2.Cl P w K mg base 1 "numbers_in" ["whole"] spIn := by
  refine Cl.of T.d_numbers_in sc_numbers_in (fun vs H Q E h => ?_) (fun _ _ _ _ _ _ us hl => match us, hl with | [_], _ => rfl) (fun f cdv A outer s H vs Q E hr h => ?_)
  · obtain ⟨c, rfl, _⟩ := h
    rfl
  · obtain ⟨c, rfl, hc, q⟩ := h
    have hb := bits_few hc
    have hlt := bits_lt c
    refine ⟨_, (pss_one (ps_ret (pe_callTy call_tuple_of (by rfl) T.n_tuple boot_tuple (pa_cons (pe_comp (M := ["number", "whole"]) (ρ := [none, some 0]) (defScope s_numbers_in) ["whole"] ⟨rfl, by decide +kernel, by decide +kernel, by decide +kernel, rfl, by decide +kernel, by decide +kernel⟩ (pi_range1 (by rfl) T.n_range (pa_cons (pe_bm0 PySem.F.plainAttrs_int PySem.F.slot_int_bit_length PySem.F.type_int_bit_length mt_bit_length (pv 0)) pa_nil)) (fun _ _ _ _ _ _ => (pg_name (i := 0) (show (["number", "whole"] : List Str).Nodup by decide +kernel) rfl (Or.inl rfl))) (fun _ _ _ _ _ _ => (pts_one (pt_truthK (K := K) rfl (pe_op op_and (pe_op op_shr (pv 1) (pv 0)) pe_int) (fun _ => rfl)))) (fun _ _ _ _ _ _ => (pv 0))) pa_nil)))), ?_⟩
    refine ⟨_, rfl, rfl, _, rfl, rfl, _, rfl, by omega, by omega, fun D gD => ?_⟩
    generalize Builtin.Int.intBits (c : Int) = n at hb hlt ⊢
    rw [Int.toNat_natCast]
    refine comp_by n (fun i σ H2 => ∃ (v0 : Option V) (ys : List V), σ = [v0, some (.int (c : Int))] ∧ Same H H2 ∧ H2 D = some (.lst ys) ∧ ys.length = ((List.range i).filter fun j => c.testBit j).length) ⟨_, [], rfl, (Same.refl H).new gD, upd_same, rfl⟩ ?_ ?_
    · rintro i σ H2 hi ⟨v0, ys, rfl, s2, hD2, hy⟩
      have hyl : ys.length ≤ 24 := by
        have := List.length_filter_le (fun j => c.testBit j) (List.range i)
        rw [List.length_range] at this
        omega
      refine ⟨hi, ?_⟩
      rintro x H3 ⟨rfl, rfl⟩
      have hsn : ((List.range (i + 1)).filter fun j => c.testBit j) = ((List.range i).filter fun j => c.testBit j) ++ if c.testBit i = true then [i] else [] := by
        rw [List.range_succ, List.filter_append]
        by_cases e : c.testBit i = true
        · rw [if_pos e, List.filter_cons_of_pos e]; rfl
        · rw [if_neg e, List.filter_cons_of_neg e]; rfl
      refine ⟨_, rfl, _, rfl, _, _, rfl, rfl, (by show 0 ≤ 0 + (i : Int); omega), _, _, rfl, rfl, _, rfl, ?_⟩
      rw [Int.zero_add, tb]
      refine ite2 (fun e => ?_) (fun e => ?_)
      · refine ⟨_, rfl, ys, hD2, small1000 (by omega), _, ys ++ [.int (i : Int)], rfl, s2.put gD, upd_same, ?_⟩
        rw [hsn, if_pos e, List.length_append, List.length_append, hy]
        rfl
      · refine ⟨_, ys, rfl, s2, hD2, ?_⟩
        rw [hsn, if_neg e, List.append_nil]
        exact hy
    · rintro σ H2 ⟨v0, ys, rfl, s2, hD2, hy⟩
      refine ⟨Nat.le_refl _, ?_⟩
      rw [count_bits n c hlt] at hy
      refine ⟨D, _, rfl, .inl ⟨SqL.of hD2, fun p gp => ?_⟩⟩
      refine q p ys _ (s2.new gp) upd_same hy ?_
      have h1 := count_bits n c hlt
      have h2 := List.length_filter_le (fun j => c.testBit j) (List.range n)
      rw [List.length_range] at h2
      omega
def spOnes : Sp := fun vs H Q _ => ∃ c : Nat, vs = [.int (c : Int)] ∧ Q (.int (onesN c : Int)) H
def muN (j : Nat) (σ : L2.St) (_ : Hp) : Nat := match σ[j]? with
  | some (some (V.int i)) => i.toNat
  | _ => 0
theorem ok_ones (T : Txt K mg) : L2.Cl P w K mg base 1 "_law_ones" ["_law_number"] spOnes := by
  refine Cl.of T.d_law_ones sc_law_ones (fun vs H Q E h => ?_) (fun _ _ _ _ _ _ us hl => match us, hl with | [_], _ => rfl) (fun f cdv A outer s H vs Q E hr h => ?_)
  · obtain ⟨c, rfl, _⟩ := h
    rfl
  · obtain ⟨c, rfl, q⟩ := h
    refine ⟨_, (pss_cons (ps_set (i := 1) sc_law_ones.nd rfl (Or.inl rfl) pe_int)
      (pss_cons (ps_while PassesOwn.never (pt_cmpR op_gt (pv 0) pe_int (nomark _))
        (pss_cons (ps_set (i := 1) sc_law_ones.nd rfl (Or.inl rfl) (pe_op op_add (pv 1) (pe_op op_mod (pv 0) pe_int)))
        (pss_one (ps_set (i := 0) sc_law_ones.nd rfl (Or.inl rfl) (pe_op op_fdiv (pv 0) pe_int)))))
      (pss_one (ps_ret (pv 1))))), ?_⟩
    show gName 1 _ _ _ _
    refine to_g ?_
    refine while_by (D := _) (fun σ H2 => H2 = H ∧ ∃ (n m : Nat), σ = [some (.int (n : Int)), some (.int (m : Int))] ∧ m + onesN n = onesN c) (muN 0)
      ⟨rfl, c, 0, rfl, by omega⟩ ?_ ?_
    · rintro σ H2 ⟨rfl, n, m, rfl, e⟩
      refine ⟨_, rfl, _, _, rfl, rfl, _, rfl, ?_⟩
      refine ite2 (fun hc => ?_) (fun hc => ?_)
      · have hn : 0 < n := by have := of_decide_eq_true hc; omega
        refine ⟨_, rfl, _, rfl, _, _, rfl, rfl, (by show (0 : Int) < 2; decide), _, _, rfl, rfl, ?_⟩
        refine ⟨_, rfl, _, _, rfl, rfl, ⟨by decide, by decide⟩, ⟨⟨rfl, n / 2, m + n % 2, ?_, ?_⟩, ?_⟩⟩
        · show [some (V.int ((n : Int) / 2)), some (V.int ((m : Int) + (n : Int) % 2))] = _
          rw [show ((n : Int) / 2) = ((n / 2 : Nat) : Int) by omega, show ((m : Int) + (n : Int) % 2) = ((m + n % 2 : Nat) : Int) by omega]
        · rw [← e, ones_all n]; omega
        · show ((n : Int) / 2).toNat < ((n : Int)).toNat
          omega
      · have hn : n = 0 := by
          have : ¬ ((0 : Int) < (n : Int)) := fun z => hc (decide_eq_true z)
          omega
        subst hn
        rw [ones_0] at e
        have e' : m = onesN c := by omega
        subst e'
        exact ⟨_, rfl, q⟩
    · rintro σ H2 Q1 Q2 hQ ⟨v, e1, i, j, e5, e6, k, e7, h8⟩
      exact ⟨v, e1, i, j, e5, e6, k, e7, hQ _ _ h8⟩
abbrev Gp := Nat × Int
def GAt (H : Hp) (v : V) (g : Gp) : Prop := ∃ t u, v = .ref t ∧ H t = some (.tup [.int (g.1 : Int), u, .int g.2])
def PAt (H : Hp) (v : V) (ks : List Nat) : Prop := ∃ t, v = .ref t ∧ H t = some (.tup (natsV ks))
def gpAt (gs : List Gp) (k : Nat) : Gp := gs.getD k (0, 0)
def oned (gs : List Gp) (ks : List Nat) : Nat := ks.foldl (fun c k => c ||| (gpAt gs k).1) 0
def load (gs : List Gp) (t : Int) (ks : List Nat) : Int := ks.foldl (fun c k => c + (gpAt gs k).2) t
theorem oned_snoc (gs : List Gp) (ks : List Nat) (k : Nat) : oned gs (ks ++ [k]) = oned gs ks ||| (gpAt gs k).1 := by unfold oned; rw [List.foldl_append]; rfl
theorem load_snoc (gs : List Gp) (t : Int) (ks : List Nat) (k : Nat) : load gs t (ks ++ [k]) = load gs t ks + (gpAt gs k).2 := by unfold load; rw [List.foldl_append]; rfl
structure GsOk (gs : List Gp) : Prop where
  lt : ∀ g ∈ gs, g.1 < 2 ^ 24
theorem gpAt_lt {gs : List Gp} (h : GsOk gs) (k : Nat) : (gpAt gs k).1 < 2 ^ 24 := by
  unfold gpAt
  by_cases hk : k < gs.length
  · have : gs.getD k (0, 0) = gs[k] := by simp [List.getD, hk]
    rw [this]
    exact h.lt _ (List.getElem_mem hk)
  · have : gs.getD k (0, 0) = (0, 0) := by rw [List.getD_eq_getElem?_getD, List.getElem?_eq_none (Nat.le_of_not_lt hk)]; rfl
    rw [this]
    decide
theorem oned_lt {gs : List Gp} (h : GsOk gs) (ks : List Nat) : oned gs ks < 2 ^ 24 := by
  unfold oned
  have : ∀ (ks : List Nat) (c : Nat), c < 2 ^ 24 → ks.foldl (fun c k => c ||| (gpAt gs k).1) c < 2 ^ 24 := by
    intro ks
    induction ks with
    | nil => intro c hc; exact hc
    | cons k r ih => intro c hc; exact ih _ (Nat.or_lt_two_pow hc (gpAt_lt h k))
  exact this ks 0 (by decide)
theorem gp_get {H : Hp} {vs : List V} {gs : List Gp} (hp : Paired (GAt H) vs gs) {k : Nat} (hk : k < gs.length) : ∃ t u, atI vs (k : Int) = some (.ref t) ∧ H t = some (.tup [.int ((gpAt gs k).1 : Int), u, .int (gpAt gs k).2]) := by
  have hg : gs[k]? = some gs[k] := by simp [hk]
  obtain ⟨v, hv, t, u, e, ht⟩ := Paired.get?' hp hg
  have : gpAt gs k = gs[k] := by unfold gpAt; simp [List.getD, hk]
  rw [this]
  subst e
  exact ⟨t, u, atI_nat hv, ht⟩
theorem natsV_get {ks : List Nat} {i : Nat} {y : V} (h : (natsV ks)[i]? = some y) : ∃ k, ks[i]? = some k ∧ y = .int (k : Int) := by
  unfold natsV at h
  rw [List.getElem?_map] at h
  cases e : ks[i]? with
  | none => rw [e] at h; cases h
  | some k => rw [e] at h; exact ⟨k, rfl, (Option.some.inj h).symm⟩
def packP (gs : List Gp) (t : Int) (ks : List Nat) : Int := (onesN (oned gs ks) : Int) * load gs t ks
def spPackP : Sp := fun vs H Q _ => ∃ (a b : Addr) (us : List V) (gs : List Gp) (t : Int) (ks : List Nat), vs = [.ref a, .int t, .ref b] ∧ H a = some (.tup us) ∧ Paired (GAt H) us gs ∧ GsOk gs ∧ H b = some (.tup (natsV ks)) ∧ (∀ k ∈ ks, k < gs.length) ∧ ∀ H', Same H H' → Q (.int (packP gs t ks)) H'
theorem ok_packP (T : Txt K mg) : L2.Cl P w K mg base 2 "pack_price" ["groups", "toll", "pack"] spPackP := by
  have C_numbers_in := ok_in (P := P) (w := w) (base := base) T
  refine Cl.of T.d_pack_price sc_pack_price (fun vs H Q E h => ?_) (fun _ _ _ _ _ _ us hl => match us, hl with | [_, _, _], _ => rfl) (fun f cdv A outer s H vs Q E hr h => ?_)
  · obtain ⟨a, b, us, gs, t, ks, rfl, _⟩ := h
    rfl
  · obtain ⟨a, b, us, gs, t, ks, rfl, ha, hus, hok, hb, hks, q⟩ := h
    refine ⟨_, (pss_cons (ps_set (i := 3) sc_pack_price.nd rfl (Or.inl rfl) pe_int)
      (pss_cons (ps_set (i := 4) sc_pack_price.nd rfl (Or.inl rfl) (pv 1))
      (pss_cons (ps_for PassesOwn.never rfl (pi_tup (pv 2)) (pg_name (i := 5) sc_pack_price.nd rfl (Or.inl rfl))
        (pss_cons (ps_aug (i := 3) sc_pack_price.nd rfl (Or.inl rfl) (pe_ix ix_tup (pe_ix ix_tup (pv 0) (pv 5) (fun _ _ => rfl)) pe_int (fun _ _ => rfl)) ip_or)
        (pss_one (ps_aug (i := 4) sc_pack_price.nd rfl (Or.inl rfl) (pe_ix ix_tup (pe_ix ix_tup (pv 0) (pv 5) (fun _ _ => rfl)) pe_int (fun _ _ => rfl)) ip_add))))
      (pss_one (ps_ret (pe_op op_mul (pe_callB call_len_seq (by rfl) T.n_len PySem.boot_len (pa_cons (pe_fn C_numbers_in hr (by rfl) (pa_cons (pv 3) pa_nil)) pa_nil)) (pv 4))))))), ?_⟩
    refine ⟨_, rfl, ?_⟩
    refine ⟨_, rfl, b, rfl, ⟨_, SqT.of hb⟩, for_tup (K := K) (a := b) (xs := natsV ks) (fun i σ H2 => H2 = H ∧ ∃ v5 : Option V, σ = [some (.ref a), some (.int t), some (.ref b), some (.int (oned gs (ks.take i) : Int)), some (.int (load gs t (ks.take i))), v5])
      ⟨rfl, none, rfl⟩ (fun i σ H2 _ ⟨e, _⟩ => by rw [e]; exact SqT.of hb) ?_ ?_⟩
    · rintro i y σ H2 hy ⟨rfl, v5, rfl⟩
      obtain ⟨k, hk, rfl⟩ := natsV_get hy
      obtain ⟨tt, u, hat, htt⟩ := gp_get hus (hks k (List.mem_of_getElem? hk))
      have z0 : atI [V.int ((gpAt gs k).1 : Int), u, V.int (gpAt gs k).2] 0 = some (.int ((gpAt gs k).1 : Int)) := atI_nat (j := 0) rfl
      have z2 : atI [V.int ((gpAt gs k).1 : Int), u, V.int (gpAt gs k).2] 2 = some (.int (gpAt gs k).2) := atI_nat (j := 2) rfl
      refine ⟨_, rfl, _, rfl, _, rfl, a, _, _, _, rfl, rfl, SqT.of ha, hat, tt, _, _, _, rfl, rfl, SqT.of htt, z0, _, _, rfl, rfl, ?_⟩
      refine ⟨_, rfl, _, rfl, _, rfl, a, _, _, _, rfl, rfl, SqT.of ha, hat, tt, _, _, _, rfl, rfl, SqT.of htt, z2, _, _, rfl, rfl, ?_⟩
      refine ⟨rfl, some (.int (k : Int)), ?_⟩
      rw [take_succ_get hk, oned_snoc, load_snoc, ← bitOr_nat]
      rfl
    · rintro σ H2 ⟨rfl, v5, rfl⟩
      rw [natsV_len, List.take_length]
      refine ⟨_, rfl, oned gs ks, rfl, oned_lt hok ks, fun p ys H3 s3 hp hy hy24 => ?_⟩
      refine ⟨p, _, rfl, .inr (SqT.of hp), _, rfl, _, _, rfl, rfl, .inl ⟨by omega, by omega⟩, ?_⟩
      rw [hy]
      exact q H3 s3
def totP (gs : List Gp) (t : Int) (kss : List (List Nat)) : Int := (kss.map (packP gs t)).sum
theorem totP_snoc (gs : List Gp) (t : Int) (kss : List (List Nat)) (ks : List Nat) : totP gs t (kss ++ [ks]) = totP gs t kss + packP gs t ks := by unfold totP; rw [List.map_append, List.sum_append]; simp
def CutAt (H : Hp) (c : Addr) (gs : List Gp) (kss : List (List Nat)) : Prop := ∃ ws, H c = some (.tup ws) ∧ Paired (PAt H) ws kss ∧ (∀ ks ∈ kss, ∀ k ∈ ks, k < gs.length) ∧ kss.length ≤ 24
theorem PAt.mono {H H' : Hp} (s : Tups H H') {v : V} {ks : List Nat} (h : PAt H v ks) : PAt H' v ks := by
  obtain ⟨t, e, h⟩ := h
  exact ⟨t, e, s _ _ h⟩
theorem GAt.mono {H H' : Hp} (s : Tups H H') {v : V} {g : Gp} (h : GAt H v g) : GAt H' v g := by
  obtain ⟨t, u, e, h⟩ := h
  exact ⟨t, u, e, s _ _ h⟩
def spPrice : Sp := fun vs H Q _ => ∃ (a c : Addr) (us : List V) (gs : List Gp) (t : Int) (kss : List (List Nat)), vs = [.ref a, .int t, .ref c] ∧ H a = some (.tup us) ∧ Paired (GAt H) us gs ∧ GsOk gs ∧ CutAt H c gs kss ∧ ∀ H', Same H H' → Q (.int (totP gs t kss)) H'
theorem ok_price (T : Txt K mg) : L2.Cl P w K mg base 3 "price" ["groups", "toll", "cut"] spPrice := by
  have C_pack_price := ok_packP (P := P) (w := w) (base := base) T
  refine Cl.of T.d_price sc_price (fun vs H Q E h => ?_) (fun _ _ _ _ _ _ us hl => match us, hl with | [_, _, _], _ => rfl) (fun f cdv A outer s H vs Q E hr h => ?_)
  · obtain ⟨a, c, us, gs, t, kss, rfl, _⟩ := h
    rfl
  · obtain ⟨a, c, us, gs, t, kss, rfl, ha, hus, hok, ⟨ws, hc, hws, hks, hkl⟩, q⟩ := h
    have hwl : ws.length = kss.length := Paired.length hws
    refine ⟨_, (pss_one (ps_ret (pe_callB (call_sum rfl) (by rfl) T.n_sum boot_sum (pa_cons (pe_comp (M := ["pack", "groups", "toll"]) (ρ := [none, some 0, some 1]) (defScope s_price) ["groups", "toll", "cut"] ⟨rfl, by decide +kernel, by decide +kernel, by decide +kernel, rfl, by decide +kernel, by decide +kernel⟩ (pi_tup (pv 2)) (fun _ _ _ _ _ _ => (pg_name (i := 0) (show (["pack", "groups", "toll"] : List Str).Nodup by decide +kernel) rfl (Or.inl rfl))) (fun _ _ _ _ _ _ => pts_nil) (fun _ _ _ _ _ _ => (pe_fn C_pack_price hr (by rfl) (pa_cons (pv 1) (pa_cons (pv 2) (pa_cons (pv 0) pa_nil)))))) pa_nil)))), ?_⟩
    refine ⟨_, rfl, c, rfl, ⟨_, SqT.of hc⟩, fun D gD => ?_⟩
    refine comp_by ws.length (fun i σ H2 => ∃ v0 : Option V, σ = [v0, some (.ref a), some (.int t)] ∧ Same H H2 ∧ H2 D = some (.lst (((kss.take i).map (packP gs t)).map V.int))) ⟨_, rfl, (Same.refl H).new gD, by rw [upd_same]; simp⟩ ?_ ?_
    · rintro i σ H2 hi ⟨v0, rfl, s2, hD2⟩
      refine ⟨⟨ws, ws[i], SqT.of (s2 _ _ hc), by simp⟩, ?_⟩
      rintro x H3 ⟨rfl, hx⟩
      obtain ⟨ks, hkk, b, eb, hb⟩ := Paired.get? hws (hx _ (SqT.of (s2 _ _ hc)))
      subst eb
      refine ntG ?_
      refine ⟨_, rfl, _, rfl, _, rfl, a, b, us, gs, t, ks, rfl, s2 _ _ ha, Paired.mapP hus fun _ _ z => z.mono s2.tups, hok, s2 _ _ hb, hks ks (List.mem_of_getElem? hkk), fun H4 s4 => ?_⟩
      refine ⟨_, s4 _ _ hD2, small1000 (by rw [List.length_map, List.length_map, List.length_take]; omega), _, rfl, (s2.trans s4).put gD, ?_⟩
      rw [upd_same, take_succ_get hkk, List.map_append, List.map_append]
      rfl
    · rintro σ H2 ⟨v0, rfl, s2, hD2⟩
      refine ⟨⟨ws, SqT.of (s2 _ _ hc), Nat.le_refl _⟩, ?_⟩
      rw [hwl, List.take_length] at hD2
      exact ⟨D, _, rfl, SqL.of hD2, q H2 s2⟩
theorem inV_ints (x : Int) : ∀ l : List Int, inV (.int x) (l.map V.int) = decide (x ∈ l)
  | [] => by simp [inV]
  | a :: r => by
    have ih := inV_ints x r
    unfold inV at ih ⊢
    rw [List.map_cons, List.any_cons, ih]
    by_cases e : a = x
    · subst e; simp [eqV]
    · have h2 : ¬ x = a := fun z => e z.symm
      simp [eqV, e, h2]
theorem ints_flat : ∀ l : List Int, (l.map V.int).all flatV = true
  | [] => rfl
  | a :: r => by rw [List.map_cons, List.all_cons, ints_flat r]; rfl
def nxt (s : Int) : Int := s % 16777215 + 1
def itr (s : Int) (t : Nat) : Int := (s - 1 + t) % 16777215 + 1
theorem itr_0 {s : Int} (h1 : 1 ≤ s) (h2 : s ≤ 16777215) : itr s 0 = s := by unfold itr; omega
theorem itr_n {s : Int} (t : Nat) : itr (nxt s) t = itr s (t + 1) := by unfold itr nxt; omega
theorem itr_inj {s : Int} {t u : Nat} (ht : t < 30) (hu : u < 30) (h : itr s t = itr s u) : t = u := by unfold itr at h; omega
theorem itr_out {s : Int} {l : List Int} (hl : l.length < 24) : ∃ t, itr s t ∉ l := by
  by_cases h : ∃ t, itr s t ∉ l
  · exact h
  · exfalso
    have hall : ∀ t, itr s t ∈ l := fun t => by
      by_cases hc : itr s t ∈ l
      · exact hc
      · exact absurd ⟨t, hc⟩ h
    have hnd : ((List.range 24).map (itr s)).Nodup := by
      rw [List.nodup_iff_pairwise_ne, List.pairwise_map]
      refine List.Pairwise.imp_of_mem ?_ (List.nodup_range (n := 24))
      intro a b ha hb hne e
      exact hne (itr_inj (by have := List.mem_range.mp ha; omega) (by have := List.mem_range.mp hb; omega) e)
    have := nodup_lenG _ l hnd (fun x hx => by
      obtain ⟨t, _, rfl⟩ := List.mem_map.mp hx
      exact hall t)
    rw [List.length_map, List.length_range] at this
    omega
def spGroups (K : PySem.W.Frag) : Sp := fun vs H Q _ => ∃ (a : Addr) (ns : List Int) (f0 n wd : Int), vs = [.ref a, .int f0, .int n, .int wd] ∧ SqL K H a (ns.map V.int) ∧ 0 ≤ f0 ∧ f0 ≤ 30 ∧ 0 ≤ n ∧ n ≤ 24 ∧ ∀ (x : Addr) (vs : List V) (gs : List Gp) (H' : Hp), Same H H' → H' x = some (.tup vs) → Paired (GAt H') vs gs → gs.length = n.toNat → GsOk gs → Q (.ref x) H'
theorem ok_groups (T : Txt K mg) : L2.Cl P w K mg base 2 "_law_groups" ["_law_script", "_law_first", "_law_many", "_law_wide"] (spGroups K) := by
  have C_law_cell_at := ok_cell (P := P) (w := w) (base := base) T
  have C_law_mixed := ok_mixed (P := P) (w := w) (base := base) T
  refine Cl.of T.d_law_groups sc_law_groups (fun vs H Q E h => ?_) (fun _ _ _ _ _ _ us hl => match us, hl with | [_, _, _, _], _ => rfl) (fun f cdv A outer s H vs Q E hr h => ?_)
  · obtain ⟨a, ns, f0, n, wd, rfl, _⟩ := h
    rfl
  · obtain ⟨a, ns, f0, n, wd, rfl, hS, hf0, hf1, hn0, hn1, q⟩ := h
    have hb := b1060
    refine ⟨_, (pss_cons (ps_set (i := 4) sc_law_groups.nd rfl (Or.inl rfl) (pe_lst pa_nil))
      (pss_cons (ps_set (i := 5) sc_law_groups.nd rfl (Or.inl rfl) (pe_lst pa_nil))
      (pss_cons (ps_for PassesOwn.never rfl (pi_range1 (by rfl) T.n_range (pa_cons (pv 2) pa_nil)) (pg_name (i := 6) sc_law_groups.nd rfl (Or.inl rfl))
        (pss_cons (ps_set (i := 7) sc_law_groups.nd rfl (Or.inl rfl) (pe_fn C_law_cell_at hr (by rfl) (pa_cons (pv 0) (pa_cons (pe_op op_add (pv 1) (pv 6)) pa_nil))))
        (pss_cons (ps_set (i := 8) sc_law_groups.nd rfl (Or.inl rfl) (pe_fn C_law_mixed hr (by rfl) (pa_cons (pv 7) (pa_cons (pv 6) (pa_cons pe_int pa_nil)))))
        (pss_cons (ps_set (i := 9) sc_law_groups.nd rfl (Or.inl rfl) (pe_op op_add pe_int (pe_op op_mod (pe_fn C_law_mixed hr (by rfl) (pa_cons (pv 8) (pa_cons (pv 6) (pa_cons pe_int pa_nil)))) (pe_ix ix_list (pe_lst (pa_cons pe_int (pa_cons pe_int (pa_cons pe_int (pa_cons pe_int pa_nil))))) (pe_op op_mod (pv 3) pe_int) (fun _ _ => rfl)))))
        (pss_cons (ps_while PassesOwn.never (pt_cmpR op_in_seq (pv 9) (pv 5) (by with_unfolding_all rfl))
          (pss_one (ps_set (i := 9) sc_law_groups.nd rfl (Or.inl rfl) (pe_op op_add (pe_op op_mod (pv 9) pe_int) pe_int))))
        (pss_cons (ps_expr (pe_bm PySem.F.plainAttrs_list PySem.F.slot_list_append PySem.F.type_list_append mt_append (pv 5) (pa_cons (pv 9) pa_nil)))
        (pss_cons (ps_set (i := 10) sc_law_groups.nd rfl (Or.inl rfl) (pe_op op_add pe_int (pe_op op_mod (pe_op op_fdiv (pv 7) pe_int) pe_int)))
        (pss_cons (ps_if (pt_cmpR op_eq (pe_op op_mod (pv 7) pe_int) pe_int (nomark _))
          (pss_one (ps_set (i := 10) sc_law_groups.nd rfl (Or.inl rfl) (pe_op op_add pe_int (pe_op op_mod (pe_op op_fdiv (pv 7) pe_int) (pe_op op_sub (pe_op op_pow pe_int pe_int) pe_int))))) pss_nil)
        (pss_one (ps_expr (pe_bm PySem.F.plainAttrs_list PySem.F.slot_list_append PySem.F.type_list_append mt_append (pv 4) (pa_cons (pe_tup (pa_cons (pv 9) (pa_cons (pe_tup (pa_cons (pe_op op_add_str pe_str (pe_callTy call_str_int (by rfl) T.n_str boot_str (pa_cons (pv 6) pa_nil))) pa_nil)) (pa_cons (pv 10) pa_nil)))) pa_nil))))))))))))
      (pss_one (ps_ret (pe_callTy call_tuple_of (by rfl) T.n_tuple boot_tuple (pa_cons (pv 4) pa_nil))))))), ?_⟩
    refine ⟨(by show 0 ≤ sizeLine; decide), fun F gF => ?_⟩
    have s1 : Same H (upd H F (.lst [])) := (Same.refl H).new gF
    have hF1 : upd H F (.lst []) F = some (.lst []) := upd_same
    generalize upd H F (.lst []) = H1 at s1 hF1 ⊢
    refine ⟨(by show 0 ≤ sizeLine; decide), fun L gL => ?_⟩
    have hFL : F ≠ L := fun z => by rw [z] at hF1; rw [hF1] at gL; cases gL
    have s2 : Same H (upd H1 L (.lst [])) := s1.new gL
    have gLH : H L = none := s1.free gL
    refine ⟨_, rfl, _, rfl, by omega, by omega, for_range (fun i σ H2 => ∃ (v6 v7 v8 v9 v10 : Option V) (vs : List V) (gs : List Gp) (ls : List Int), σ = [some (.ref a), some (.int f0), some (.int n), some (.int wd), some (.ref F), some (.ref L), v6, v7, v8, v9, v10] ∧ Same H H2 ∧ H2 F = some (.lst vs) ∧ Paired (GAt H2) vs gs ∧ gs.length = i ∧ GsOk gs ∧ H2 L = some (.lst (ls.map V.int)) ∧ ls.length = i)
      ⟨none, none, none, none, none, [], [], [], rfl, s2, upd_keep hF1 gL, .nil, rfl, ⟨by simp⟩, upd_same, rfl⟩ ?_ ?_⟩
    · rintro i σ H2 hi ⟨v6, v7, v8, v9, v10, vs, gs, ls, rfl, s3, hF, hvs, hgl, hgo, hL, hll⟩
      have hvl : vs.length = gs.length := Paired.length hvs
      refine ⟨_, rfl, _, rfl, _, rfl, _, _, rfl, rfl, a, ns, _, rfl, s3.seq hS, by omega, fun c => ?_⟩
      refine ⟨_, rfl, _, rfl, c, 0 + (i : Int), 2147483629, rfl, by omega, by omega, by decide, ?_⟩
      generalize mixM c (0 + (i : Int)) 2147483629 = nu
      refine ⟨_, rfl, _, rfl, nu, 0 + (i : Int), 16777213, rfl, by omega, by omega, by decide, ?_⟩
      generalize mixM nu (0 + (i : Int)) 16777213 = mz
      refine ⟨(by show 4 ≤ sizeLine; decide), fun st gst => ?_⟩
      have s4 : Same H2 (upd H2 st (.lst [.int 7, .int 31, .int 511, .int 16777215])) := (Same.refl H2).new gst
      have hv : ∀ k : Nat, k < 4 → 7 ≤ ([7, 31, 511, 16777215] : List Int).getD k 0 ∧ ([7, 31, 511, 16777215] : List Int).getD k 0 ≤ 16777215 := by decide
      have hwv := hv (wd % 4).toNat (by omega)
      refine ⟨_, rfl, _, _, rfl, rfl, (by show (0 : Int) < 4; decide), st, _, _, _, rfl, rfl, SqL.of upd_same, atI_map V.int [7, 31, 511, 16777215] 0 (by omega) (by show wd % 4 < 4; omega), _, _, rfl, rfl, (by omega), _, _, rfl, rfl, ?_⟩
      generalize ([7, 31, 511, 16777215] : List Int).getD (wd % 4).toNat 0 = wv at hwv ⊢
      have hsh : 1 ≤ 1 + mz % wv ∧ 1 + mz % wv ≤ 16777215 := by
        have h1 := Int.emod_nonneg mz (show wv ≠ 0 by omega)
        have h2 := Int.emod_lt_of_pos mz (show 0 < wv by omega)
        omega
      generalize upd H2 st (.lst [.int 7, .int 31, .int 511, .int 16777215]) = H3 at s4 ⊢
      have hL3 := s4 _ _ hL
      have hF3 := s4 _ _ hF
      have hvs3 : Paired (GAt H3) vs gs := Paired.mapP hvs fun _ _ z => z.mono s4.tups
      have s34 := s3.trans s4
      show gName 9 (V.int (1 + mz % wv)) _ _ _
      generalize 1 + mz % wv = sh at hsh ⊢
      refine to_g ?_
      obtain ⟨t0, ht0⟩ := itr_out (s := sh) (l := ls) (by omega)
      refine ⟨fun m σ H4 => H4 = H3 ∧ ∃ z : Int, σ = [some (.ref a), some (.int f0), some (.int n), some (.int wd), some (.ref F), some (.ref L), some (.int (0 + (i : Int))), some (.int c), some (.int nu), some (.int z), v10] ∧ 1 ≤ z ∧ z ≤ 16777215 ∧ itr z m ∉ ls, ⟨t0, rfl, sh, rfl, hsh.1, hsh.2, ht0⟩, ?_⟩
      · rintro m σ H4 ⟨rfl, z, rfl, hz1, hz2, hzt⟩
        refine ⟨_, rfl, _, rfl, L, _, rfl, .inl (SqL.of hL3), rfl, ints_flat _, _, rfl, ?_⟩
        rw [if_neg Bool.false_ne_true, inV_ints]
        refine ite2 (fun hin => ?_) (fun hin => ?_)
        · have hin' : z ∈ ls := of_decide_eq_true hin
          obtain ⟨t', rfl⟩ : ∃ t', m = t' + 1 := by
            cases m with
            | zero =>
              rw [itr_0 hz1 hz2] at hzt
              exact absurd hin' hzt
            | succ t' => exact ⟨t', rfl⟩
          refine ⟨fun σ' H' => H' = H4 ∧ ∃ z : Int, σ' = [some (.ref a), some (.int f0), some (.int n), some (.int wd), some (.ref F), some (.ref L), some (.int (0 + (i : Int))), some (.int c), some (.int nu), some (.int z), v10] ∧ 1 ≤ z ∧ z ≤ 16777215 ∧ itr z t' ∉ ls, fun σ' H' hN => ⟨t', Nat.lt_succ_self _, hN⟩, ?_⟩
          exact ⟨_, rfl, _, _, rfl, rfl, (by show (0 : Int) < 16777215; decide), _, _, rfl, rfl, rfl, nxt z, rfl, by unfold nxt; omega, by unfold nxt; omega, by rw [itr_n]; exact hzt⟩
        · refine ⟨_, rfl, .inl ⟨rfl, _, SqL.of hL3⟩, _, rfl, L, _, _, rfl, rfl, hL3, small1000 (by rw [List.length_map]; omega), ?_⟩
          have hL5 : upd H4 L (.lst (ls.map V.int ++ [.int z])) L = some (.lst ((ls ++ [z]).map V.int)) := by rw [upd_same, List.map_append]; rfl
          have hF5 : upd H4 L (.lst (ls.map V.int ++ [.int z])) F = some (.lst vs) := by rw [upd_ne hFL]; exact hF3
          have s5 : Same H (upd H4 L (.lst (ls.map V.int ++ [.int z]))) := s34.put gLH
          have hvs5 : Paired (GAt (upd H4 L (.lst (ls.map V.int ++ [.int z])))) vs gs := Paired.mapP hvs3 fun _ _ z => z.mono (Tups.lst hL3)
          generalize upd H4 L (.lst (ls.map V.int ++ [.int z])) = H5 at hL5 hF5 s5 hvs5 ⊢
          refine ⟨_, rfl, _, _, rfl, rfl, ⟨by decide, by decide⟩, _, _, rfl, rfl, (by show (0 : Int) < 20; decide), _, _, rfl, rfl, ?_⟩
          refine g_if_any (Pv := fun y => ∃ m : Int, y = .int m) (fun Q' h => ⟨_, rfl, _, _, rfl, rfl, (by show (0 : Int) < 4; decide), rfl, _, rfl, h _⟩) (fun Q' h => ⟨_, rfl, _, _, rfl, rfl, ⟨by decide, by decide⟩, _, _, rfl, rfl, ⟨by decide, by decide, by decide⟩, _, _, rfl, rfl, _, _, rfl, rfl, (by show (0 : Int) < 10 ^ (60 : Int).toNat - 1; decide), _, _, rfl, rfl, h _ ⟨_, rfl⟩⟩) ⟨_, rfl⟩ ?_
          rintro _ ⟨sz, rfl⟩
          refine ⟨_, rfl, .inl ⟨rfl, _, SqL.of hF5⟩, _, rfl, _, rfl, _, rfl, ?_, _, _, rfl, rfl, ?_, (by show 1 ≤ sizeLine; decide), fun t1 g1 => ⟨_, rfl, (by show 3 ≤ sizeLine; decide), fun t2 g2 => ?_⟩⟩
          · rw [Int.zero_add]; exact log_small (by omega)
          · rw [Int.zero_add]
            have := vN_len i (by omega)
            show 1 + _ ≤ sizeLine
            exact Nat.le_of_lt (small1000 (by omega))
          have s6 := s5.new (o := .tup [.str ("p" ++ Str.ofString (toString (0 + (i : Int))))]) g1
          have s56 : Same H5 _ := (Same.refl H5).new (o := .tup [.str ("p" ++ Str.ofString (toString (0 + (i : Int))))]) g1
          have s57 := s56.new (o := .tup [.int z, .ref t1, .int sz]) g2
          have hF7 := s57 _ _ hF5
          have T7 := Tups.lst (ys := vs ++ [.ref t2]) hF7
          refine ⟨F, _, _, rfl, rfl, hF7, small1000 (by omega), ?_⟩
          refine ⟨_, _, _, _, _, vs ++ [.ref t2], gs ++ [(z.toNat, sz)], ls ++ [z], rfl, (s5.trans s57).put gF, upd_same, Paired.snoc (Paired.mapP hvs5 fun _ _ z => z.mono (s57.tups.trans T7)) ⟨t2, .ref t1, rfl, ?_⟩, by rw [List.length_append, hgl]; rfl, ⟨fun g hg => ?_⟩, ?_, by rw [List.length_append, hll]; rfl⟩
          · refine T7 _ _ ?_
            rw [upd_same]
            show some (HO.tup [V.int z, V.ref t1, V.int sz]) = some (HO.tup [V.int ((z.toNat : Nat) : Int), V.ref t1, V.int sz])
            rw [show ((z.toNat : Nat) : Int) = z by omega]
          · rcases List.mem_append.mp hg with y | y
            · exact hgo.lt g y
            · rw [List.mem_singleton.mp y]
              show z.toNat < 2 ^ 24
              omega
          · rw [upd_ne hFL.symm]
            exact s57 _ _ hL5
    · rintro σ H2 ⟨v6, v7, v8, v9, v10, vs, gs, ls, rfl, s3, hF, hvs, hgl, hgo, hL, hll⟩
      refine ⟨_, rfl, F, _, rfl, .inl ⟨SqL.of hF, fun x gx => ?_⟩⟩
      have s4 : Same H2 (upd H2 x (.tup vs)) := (Same.refl H2).new gx
      exact q x vs gs _ (s3.trans s4) upd_same (Paired.mapP hvs fun _ _ z => z.mono s4.tups) hgl hgo
def spToll : Sp := fun vs H Q _ => ∃ c : Int, vs = [.int c] ∧ ∀ t : Int, Q (.int t) H
theorem ok_toll (T : Txt K mg) : L2.Cl P w K mg base 1 "_law_toll" ["_law_cell"] spToll := by
  refine Cl.of T.d_law_toll sc_law_toll (fun vs H Q E h => ?_) (fun _ _ _ _ _ _ us hl => match us, hl with | [_], _ => rfl) (fun f cdv A outer s H vs Q E hr h => ?_)
  · obtain ⟨c, rfl, _⟩ := h
    rfl
  · obtain ⟨c, rfl, q⟩ := h
    refine ⟨_, (pss_cons (ps_if (pt_cmpR op_eq (pe_op op_mod (pv 0) pe_int) pe_int (nomark _))
        (pss_one (ps_ret (pe_op op_mod (pe_op op_fdiv (pv 0) pe_int) (pe_op op_pow pe_int pe_int)))) pss_nil)
      (pss_one (ps_ret (pe_op op_mod (pe_op op_fdiv (pv 0) pe_int) pe_int)))), ?_⟩
    refine ⟨_, rfl, _, _, rfl, rfl, (by show (0 : Int) < 3; decide), rfl, _, rfl, ?_⟩
    refine ite2 (fun _ => ?_) (fun _ => ?_)
    · exact ⟨_, rfl, _, _, rfl, rfl, ⟨by decide, by decide⟩, _, _, rfl, rfl, ⟨by decide, by decide, by decide⟩, _, _, rfl, rfl, (by show (0 : Int) < 10 ^ (60 : Int).toNat; decide), q _⟩
    · exact ⟨_, rfl, _, _, rfl, rfl, ⟨by decide, by decide⟩, _, _, rfl, rfl, (by show (0 : Int) < 30; decide), q _⟩
def spWhole : Sp := fun vs H Q _ => ∃ c : Int, vs = [.int c] ∧ Q (.bl true) H
theorem ok_whole (T : Txt K mg) : L2.Cl P w K mg base 1 "_law_whole" ["_law_found"] spWhole := by
  refine Cl.of T.d_law_whole sc_law_whole (fun vs H Q E h => ?_) (fun _ _ _ _ _ _ us hl => match us, hl with | [_], _ => rfl) (fun f cdv A outer s H vs Q E hr h => ?_)
  · obtain ⟨c, rfl, _⟩ := h
    rfl
  · obtain ⟨c, rfl, q⟩ := h
    refine ⟨_, (pss_one (ps_ret (pe_and (pe_callB call_isinst (by rfl) T.n_isinstance PyProof.Rows.boot_isinstance (pa_cons (pv 0) (pa_cons (pe_bltn (v := .ty "int") (by rfl) T.n_int boot_int rfl) pa_nil))) (pe_one (pe_not (pe_callB call_isinst (by rfl) T.n_isinstance PyProof.Rows.boot_isinstance (pa_cons (pv 0) (pa_cons (pe_bltn (v := .ty "bool") (by rfl) T.n_bool boot_bool rfl) pa_nil)))))))), ?_⟩
    exact ⟨_, rfl, _, _, _, _, rfl, .int _, kit_same _ _, _, rfl, iteT ⟨_, rfl, _, _, _, _, rfl, .int _, kit_int_bool _, _, rfl, q⟩⟩
theorem and_step (a b : Nat) : a &&& b = 2 * (a / 2 &&& b / 2) + (a % 2) * (b % 2) := by
  have h1 : (a &&& b) / 2 = a / 2 &&& b / 2 := Nat.and_div_two
  have h2 : (a &&& b) % 2 = (a % 2) * (b % 2) := by
    have e := Nat.testBit_and a b 0
    simp only [Nat.testBit_zero] at e
    have m := Nat.mod_two_eq_zero_or_one (a &&& b)
    rcases Nat.mod_two_eq_zero_or_one a with x | x <;> rcases Nat.mod_two_eq_zero_or_one b with y | y <;> rcases m with z | z <;> simp_all
  have := Nat.div_add_mod (a &&& b) 2
  omega
theorem sub_iff {p x : Nat} : p ||| x = x ↔ p &&& x = p := by
  constructor
  · intro h
    refine Nat.eq_of_testBit_eq fun i => ?_
    have e := congrArg (fun z => z.testBit i) h
    simp only [Nat.testBit_or, Nat.testBit_and] at e ⊢
    cases h1 : p.testBit i <;> cases h2 : x.testBit i <;> simp_all
  · intro h
    refine Nat.eq_of_testBit_eq fun i => ?_
    have e := congrArg (fun z => z.testBit i) h
    simp only [Nat.testBit_or, Nat.testBit_and] at e ⊢
    cases h1 : p.testBit i <;> cases h2 : x.testBit i <;> simp_all
def Msk (p x : Nat) : Prop := p &&& x = p
theorem Msk.le {p x : Nat} (h : Msk p x) : p ≤ x := by rw [← h]; exact Nat.and_le_right
theorem Msk.step {p x : Nat} : Msk p x ↔ Msk (p / 2) (x / 2) ∧ (p % 2) * (x % 2) = p % 2 := by
  unfold Msk
  have e := and_step p x
  have m : (p % 2) * (x % 2) < 2 := by
    rcases Nat.mod_two_eq_zero_or_one p with a | a <;> rcases Nat.mod_two_eq_zero_or_one x with b | b <;> rw [a, b] <;> decide
  constructor
  · intro h; omega
  · rintro ⟨h1, h2⟩; omega
theorem and_pred : ∀ (k m : Nat), (2 ^ k * (2 * m + 1)) &&& (2 ^ k * (2 * m + 1) - 1) = 2 ^ (k + 1) * m
  | 0, m => by
    rw [and_step]
    have e1 : (2 ^ 0 * (2 * m + 1)) / 2 = m := by omega
    have e2 : (2 ^ 0 * (2 * m + 1) - 1) / 2 = m := by omega
    have e3 : (2 ^ 0 * (2 * m + 1) - 1) % 2 = 0 := by omega
    rw [e1, e2, e3, Nat.and_self]
    omega
  | k + 1, m => by
    have ih := and_pred k m
    rw [and_step]
    have h : 2 ^ (k + 1) * (2 * m + 1) = 2 * (2 ^ k * (2 * m + 1)) := by rw [Nat.pow_succ, Nat.mul_comm (2 ^ k) 2, Nat.mul_assoc]
    have hp : 0 < 2 ^ k * (2 * m + 1) := Nat.mul_pos (Nat.two_pow_pos k) (by omega)
    have e1 : (2 ^ (k + 1) * (2 * m + 1)) / 2 = 2 ^ k * (2 * m + 1) := by rw [h]; omega
    have e2 : (2 ^ (k + 1) * (2 * m + 1) - 1) / 2 = 2 ^ k * (2 * m + 1) - 1 := by rw [h]; omega
    have e3 : (2 ^ (k + 1) * (2 * m + 1)) % 2 = 0 := by rw [h]; omega
    rw [e1, e2, e3, ih, Nat.zero_mul, Nat.add_zero]
    rw [show k + 1 + 1 = (k + 1) + 1 from rfl, Nat.pow_succ 2 (k + 1), Nat.mul_comm (2 ^ (k + 1)) 2, Nat.mul_assoc]
theorem first_sub : ∀ (k m v : Nat), Msk v (2 ^ (k + 1) * m) → (2 ^ k + v) &&& 2 ^ k = 2 ^ k ∧ Msk (2 ^ k + v) (2 ^ k * (2 * m + 1))
  | 0, m, v, h => by
    have h0 : 2 ^ (0 + 1) * m = 2 * m := by omega
    rw [h0] at h
    obtain ⟨h1, h2⟩ := Msk.step.mp h
    have hv : v % 2 = 0 := by
      have : (2 * m) % 2 = 0 := by omega
      rw [this] at h2; omega
    have hm : 2 * m / 2 = m := by omega
    rw [hm] at h1
    constructor
    · rw [and_step]
      have e1 : (2 ^ 0 + v) % 2 = 1 := by omega
      have e2 : (2 : Nat) ^ 0 / 2 = 0 := by decide
      rw [e1, e2, Nat.and_zero]
    · refine Msk.step.mpr ⟨?_, ?_⟩
      · have e1 : (2 ^ 0 + v) / 2 = v / 2 := by omega
        have e2 : (2 ^ 0 * (2 * m + 1)) / 2 = m := by omega
        rw [e1, e2]; exact h1
      · have e1 : (2 ^ 0 + v) % 2 = 1 := by omega
        have e2 : (2 ^ 0 * (2 * m + 1)) % 2 = 1 := by omega
        rw [e1, e2]
  | k + 1, m, v, h => by
    have h0 : 2 ^ (k + 1 + 1) * m = 2 * (2 ^ (k + 1) * m) := by rw [Nat.pow_succ 2 (k + 1), Nat.mul_comm (2 ^ (k + 1)) 2, Nat.mul_assoc]
    have hx : 2 ^ (k + 1) * (2 * m + 1) = 2 * (2 ^ k * (2 * m + 1)) := by rw [Nat.pow_succ, Nat.mul_comm (2 ^ k) 2, Nat.mul_assoc]
    have hp : 2 ^ (k + 1) = 2 * 2 ^ k := by rw [Nat.pow_succ, Nat.mul_comm]
    rw [h0] at h
    obtain ⟨h1, h2⟩ := Msk.step.mp h
    have hm : 2 * (2 ^ (k + 1) * m) / 2 = 2 ^ (k + 1) * m := by omega
    have hv : v % 2 = 0 := by
      have : (2 * (2 ^ (k + 1) * m)) % 2 = 0 := by omega
      rw [this] at h2; omega
    rw [hm] at h1
    obtain ⟨i1, i2⟩ := first_sub k m (v / 2) h1
    have e1 : (2 ^ (k + 1) + v) / 2 = 2 ^ k + v / 2 := by rw [hp]; omega
    have e2 : (2 ^ (k + 1) + v) % 2 = 0 := by rw [hp]; omega
    have e3 : 2 ^ (k + 1) / 2 = 2 ^ k := by rw [hp]; omega
    constructor
    · rw [and_step, e1, e2, e3, i1, Nat.zero_mul, Nat.add_zero, hp]
    · refine Msk.step.mpr ⟨?_, ?_⟩
      · have e4 : (2 ^ (k + 1) * (2 * m + 1)) / 2 = 2 ^ k * (2 * m + 1) := by rw [hx]; omega
        rw [e1, e4]; exact i2
      · rw [e2, Nat.zero_mul]
theorem sub_first : ∀ (k m p : Nat), p &&& 2 ^ k = 2 ^ k → Msk p (2 ^ k * (2 * m + 1)) → 2 ^ k ≤ p ∧ Msk (p - 2 ^ k) (2 ^ (k + 1) * m)
  | 0, m, p, h, hs => by
    have hp : 2 ^ 0 ≤ p := by rw [← h]; exact Nat.and_le_left
    obtain ⟨h1, h2⟩ := Msk.step.mp hs
    have hp2 : p % 2 = 1 := by
      rw [and_step] at h
      have e : (2 : Nat) ^ 0 / 2 = 0 := by decide
      rw [e, Nat.and_zero] at h
      omega
    refine ⟨hp, Msk.step.mpr ⟨?_, ?_⟩⟩
    · have e1 : (p - 2 ^ 0) / 2 = p / 2 := by omega
      have e2 : (2 ^ (0 + 1) * m) / 2 = m := by omega
      have e3 : (2 ^ 0 * (2 * m + 1)) / 2 = m := by omega
      rw [e3] at h1
      rw [e1, e2]; exact h1
    · have e1 : (p - 2 ^ 0) % 2 = 0 := by omega
      rw [e1, Nat.zero_mul]
  | k + 1, m, p, h, hs => by
    have h0 : 2 ^ (k + 1 + 1) * m = 2 * (2 ^ (k + 1) * m) := by rw [Nat.pow_succ 2 (k + 1), Nat.mul_comm (2 ^ (k + 1)) 2, Nat.mul_assoc]
    have hx : 2 ^ (k + 1) * (2 * m + 1) = 2 * (2 ^ k * (2 * m + 1)) := by rw [Nat.pow_succ, Nat.mul_comm (2 ^ k) 2, Nat.mul_assoc]
    have hp : 2 ^ (k + 1) = 2 * 2 ^ k := by rw [Nat.pow_succ, Nat.mul_comm]
    have hle : 2 ^ (k + 1) ≤ p := by rw [← h]; exact Nat.and_le_left
    rw [hx] at hs
    obtain ⟨h1, h2⟩ := Msk.step.mp hs
    have e4 : 2 * (2 ^ k * (2 * m + 1)) / 2 = 2 ^ k * (2 * m + 1) := by omega
    have hp2 : p % 2 = 0 := by
      have : (2 * (2 ^ k * (2 * m + 1))) % 2 = 0 := by omega
      rw [this] at h2; omega
    rw [e4] at h1
    have e3 : 2 ^ (k + 1) / 2 = 2 ^ k := by rw [hp]; omega
    have h3 : p / 2 &&& 2 ^ k = 2 ^ k := by
      rw [and_step, e3, hp2, Nat.zero_mul, Nat.add_zero] at h
      omega
    obtain ⟨i1, i2⟩ := sub_first k m (p / 2) h3 h1
    refine ⟨hle, Msk.step.mpr ⟨?_, ?_⟩⟩
    · have e1 : (p - 2 ^ (k + 1)) / 2 = p / 2 - 2 ^ k := by rw [hp] at hle ⊢; omega
      have e2 : (2 ^ (k + 1 + 1) * m) / 2 = 2 ^ (k + 1) * m := by rw [h0]; omega
      rw [e1, e2]; exact i2
    · have e1 : (p - 2 ^ (k + 1)) % 2 = 0 := by rw [hp] at hle ⊢; omega
      rw [e1, Nat.zero_mul]
def bitsL (c : Nat) : List Nat := (List.range 24).filter fun j => c.testBit j
theorem filt_ge {c n : Nat} (h : c < 2 ^ n) : ∀ m, n ≤ m → ((List.range m).filter fun j => c.testBit j) = (List.range n).filter fun j => c.testBit j
  | 0, hm => by rw [Nat.le_zero.mp hm]
  | m + 1, hm => by
    by_cases e : n = m + 1
    · rw [e]
    · have hb : c.testBit m = false := Nat.testBit_lt_two_pow (Nat.lt_of_lt_of_le h (Nat.pow_le_pow_right (by decide) (by omega)))
      rw [List.range_succ, List.filter_append, filt_ge h m (by omega), List.filter_cons_of_neg (by rw [hb]; decide)]
      exact List.append_nil _
theorem bitsL_eq {c n : Nat} (h : c < 2 ^ n) (hn : n ≤ 24) : ((List.range n).filter fun j => c.testBit j) = bitsL c := (filt_ge h 24 hn).symm
theorem bitsL_lt {c n k : Nat} (h : c < 2 ^ n) (hn : n ≤ 24) (hk : k ∈ bitsL c) : k < n := by
  rw [← bitsL_eq h hn] at hk
  exact List.mem_range.mp (List.mem_filter.mp hk).1
theorem odd_part : ∀ x : Nat, 0 < x → ∃ k m, x = 2 ^ k * (2 * m + 1) := by
  intro x
  induction x using Nat.strongRecOn with
  | ind x ih =>
    intro hx
    rcases Nat.mod_two_eq_zero_or_one x with e | e
    · obtain ⟨k, m, h⟩ := ih (x / 2) (by omega) (by omega)
      refine ⟨k + 1, m, ?_⟩
      rw [Nat.pow_succ, Nat.mul_comm (2 ^ k) 2, Nat.mul_assoc, ← h]
      omega
    · exact ⟨0, x / 2, by omega⟩
def lowb (x : Nat) : Nat := x - (x &&& (x - 1))
theorem lowb_eq (k m : Nat) : lowb (2 ^ k * (2 * m + 1)) = 2 ^ k := by
  unfold lowb
  rw [and_pred]
  have h : 2 ^ k * (2 * m + 1) = 2 ^ (k + 1) * m + 2 ^ k := by
    rw [Nat.mul_add, Nat.mul_one, Nat.pow_succ, Nat.mul_assoc]
  rw [h, Nat.add_sub_cancel_left]
def FP (x p : Nat) : Prop := p &&& lowb x = lowb x ∧ p ||| x = x
theorem FP.le {x p : Nat} (h : FP x p) : lowb x ≤ p ∧ p ≤ x := by
  refine ⟨?_, Msk.le (sub_iff.mp h.2)⟩
  rw [← h.1]
  exact Nat.and_le_left
theorem low_pos {x : Nat} (hx : 0 < x) : 0 < lowb x := by
  obtain ⟨k, m, rfl⟩ := odd_part x hx
  rw [lowb_eq]
  exact Nat.two_pow_pos k
theorem low_le {x : Nat} : lowb x ≤ x := by unfold lowb; exact Nat.sub_le _ _
theorem FP_iff {x : Nat} (hx : 0 < x) (v : Nat) : Msk v (x - lowb x) ↔ FP x (lowb x + v) := by
  obtain ⟨k, m, rfl⟩ := odd_part x hx
  have h : 2 ^ k * (2 * m + 1) = 2 ^ (k + 1) * m + 2 ^ k := by
    rw [Nat.mul_add, Nat.mul_one, Nat.pow_succ, Nat.mul_assoc]
  unfold FP
  rw [lowb_eq, show 2 ^ k * (2 * m + 1) - 2 ^ k = 2 ^ (k + 1) * m by omega]
  constructor
  · intro hv
    obtain ⟨h1, h2⟩ := first_sub k m v hv
    exact ⟨h1, sub_iff.mpr h2⟩
  · rintro ⟨h1, h2⟩
    have h3 := (sub_first k m (2 ^ k + v) h1 (sub_iff.mp h2)).2
    rwa [Nat.add_sub_cancel_left] at h3
theorem FP_self {x : Nat} (hx : 0 < x) : FP x x := by
  have h := (FP_iff hx (x - lowb x)).mp (Nat.and_self _)
  have := low_le (x := x)
  rwa [show lowb x + (x - lowb x) = x by omega] at h
structure Opt (pr : Nat → Int) (bs : List (Int × Nat)) : Prop where
  zero : ∀ v, bs[0]? = some v → v = (0, 0)
  hit : ∀ x v, 0 < x → bs[x]? = some v → FP x v.2 ∧ v.1 = pr v.2 + (bs.getD (x - v.2) (0, 0)).1
  low : ∀ x v, 0 < x → bs[x]? = some v → ∀ p, FP x p → v.1 ≤ pr p + (bs.getD (x - p) (0, 0)).1
theorem getD_app {α : Type} {l : List α} {a d : α} {i : Nat} (h : i < l.length) : (l ++ [a]).getD i d = l.getD i d := by
  rw [List.getD_eq_getElem?_getD, List.getD_eq_getElem?_getD, List.getElem?_append_left h]
theorem Opt.snoc {pr : Nat → Int} {bs : List (Int × Nat)} {v : Int × Nat} (h : Opt pr bs) (hl : 0 < bs.length) (h1 : FP bs.length v.2) (h2 : v.1 = pr v.2 + (bs.getD (bs.length - v.2) (0, 0)).1) (h3 : ∀ p, FP bs.length p → v.1 ≤ pr p + (bs.getD (bs.length - p) (0, 0)).1) : Opt pr (bs ++ [v]) := by
  have hlow : ∀ {x p}, 0 < x → FP x p → x - p < x := fun {x p} hx hf => by
    have h4 := hf.le
    have h5 := low_pos hx
    omega
  have hget : ∀ {x u}, (bs ++ [v])[x]? = some u → (x < bs.length ∧ bs[x]? = some u) ∨ (x = bs.length ∧ u = v) := fun {x u} e => by
    rcases Nat.lt_trichotomy x bs.length with c | c | c
    · rw [List.getElem?_append_left c] at e; exact .inl ⟨c, e⟩
    · rw [c, List.getElem?_append_right (Nat.le_refl _), Nat.sub_self] at e; exact .inr ⟨c, (Option.some.inj e).symm⟩
    · rw [List.getElem?_eq_none (by rw [List.length_append]; simp; omega)] at e; cases e
  refine ⟨fun u e => ?_, fun x u hx e => ?_, fun x u hx e p hp => ?_⟩
  · rcases hget e with ⟨_, e'⟩ | ⟨c, _⟩
    · exact h.zero u e'
    · omega
  · rcases hget e with ⟨c, e'⟩ | ⟨c, rfl⟩
    · obtain ⟨a, b⟩ := h.hit x u hx e'
      refine ⟨a, ?_⟩
      rw [getD_app (Nat.lt_trans (hlow hx a) c)]
      exact b
    · subst c
      refine ⟨h1, ?_⟩
      rw [getD_app (hlow hx h1)]
      exact h2
  · rcases hget e with ⟨c, e'⟩ | ⟨c, rfl⟩
    · rw [getD_app (Nat.lt_trans (hlow hx hp) c)]
      exact h.low x u hx e' p hp
    · subst c
      rw [getD_app (hlow hx hp)]
      exact h3 p hp
def spIn2 : Sp := fun vs H Q _ => ∃ c : Nat, vs = [.int (c : Int)] ∧ c < 2 ^ 24 ∧ ∀ (p : Addr) (H' : Hp), Same H H' → H' p = some (.tup (natsV (bitsL c))) → Q (.ref p) H'
theorem ok_in2 (T : Txt K mg) : L2.Cl P w K mg base 1 "numbers_in" ["whole"] spIn2 := by
  refine Cl.of T.d_numbers_in sc_numbers_in (fun vs H Q E h => ?_) (fun _ _ _ _ _ _ us hl => match us, hl with | [_], _ => rfl) (fun f cdv A outer s H vs Q E hr h => ?_)
  · obtain ⟨c, rfl, _⟩ := h
    rfl
  · obtain ⟨c, rfl, hc, q⟩ := h
    have hb := bits_few hc
    have hlt := bits_lt c
    refine ⟨_, (pss_one (ps_ret (pe_callTy call_tuple_of (by rfl) T.n_tuple boot_tuple (pa_cons (pe_comp (M := ["number", "whole"]) (ρ := [none, some 0]) (defScope s_numbers_in) ["whole"] ⟨rfl, by decide +kernel, by decide +kernel, by decide +kernel, rfl, by decide +kernel, by decide +kernel⟩ (pi_range1 (by rfl) T.n_range (pa_cons (pe_bm0 PySem.F.plainAttrs_int PySem.F.slot_int_bit_length PySem.F.type_int_bit_length mt_bit_length (pv 0)) pa_nil)) (fun _ _ _ _ _ _ => (pg_name (i := 0) (show (["number", "whole"] : List Str).Nodup by decide +kernel) rfl (Or.inl rfl))) (fun _ _ _ _ _ _ => (pts_one (pt_truthK (K := K) rfl (pe_op op_and (pe_op op_shr (pv 1) (pv 0)) pe_int) (fun _ => rfl)))) (fun _ _ _ _ _ _ => (pv 0))) pa_nil)))), ?_⟩
    refine ⟨_, rfl, rfl, _, rfl, rfl, _, rfl, by omega, by omega, fun D gD => ?_⟩
    generalize Builtin.Int.intBits (c : Int) = n at hb hlt ⊢
    rw [Int.toNat_natCast]
    refine comp_by n (fun i σ H2 => ∃ v0 : Option V, σ = [v0, some (.int (c : Int))] ∧ Same H H2 ∧ H2 D = some (.lst (natsV ((List.range i).filter fun j => c.testBit j)))) ⟨_, rfl, (Same.refl H).new gD, upd_same⟩ ?_ ?_
    · rintro i σ H2 hi ⟨v0, rfl, s2, hD2⟩
      have hyl : (natsV ((List.range i).filter fun j => c.testBit j)).length ≤ 24 := by
        rw [natsV_len]
        have := List.length_filter_le (fun j => c.testBit j) (List.range i)
        rw [List.length_range] at this
        omega
      refine ⟨hi, ?_⟩
      rintro x H3 ⟨rfl, rfl⟩
      have hsn : ((List.range (i + 1)).filter fun j => c.testBit j) = ((List.range i).filter fun j => c.testBit j) ++ if c.testBit i = true then [i] else [] := by
        rw [List.range_succ, List.filter_append]
        by_cases e : c.testBit i = true
        · rw [if_pos e, List.filter_cons_of_pos e]; rfl
        · rw [if_neg e, List.filter_cons_of_neg e]; rfl
      refine ⟨_, rfl, _, rfl, _, _, rfl, rfl, (by show 0 ≤ 0 + (i : Int); omega), _, _, rfl, rfl, _, rfl, ?_⟩
      rw [Int.zero_add, tb]
      refine ite2 (fun e => ?_) (fun e => ?_)
      · refine ⟨_, rfl, _, hD2, small1000 (by omega), _, rfl, s2.put gD, ?_⟩
        rw [upd_same, hsn, if_pos e, natsV_snoc]
      · refine ⟨_, rfl, s2, ?_⟩
        rw [hsn, if_neg e, List.append_nil]
        exact hD2
    · rintro σ H2 ⟨v0, rfl, s2, hD2⟩
      refine ⟨Nat.le_refl _, ?_⟩
      rw [bitsL_eq hlt hb] at hD2
      refine ⟨D, _, rfl, .inl ⟨SqL.of hD2, fun p gp => ?_⟩⟩
      exact q p _ (s2.new gp) upd_same
def prc (gs : List Gp) (t : Int) (p : Nat) : Int := packP gs t (bitsL p)
def lones (gs : List Gp) (t : Int) : List Int := (List.range (2 ^ gs.length)).map (prc gs t)
theorem lones_len (gs : List Gp) (t : Int) : (lones gs t).length = 2 ^ gs.length := by unfold lones; rw [List.length_map, List.length_range]
theorem two_le {i : Nat} (h : i ≤ 8) : 2 ^ i ≤ 256 := Nat.pow_le_pow_right (n := 2) (by decide) h
theorem bitAnd_nat (a b : Nat) : Builtin.bitAnd (a : Int) (b : Int) = ((a &&& b : Nat) : Int) := by
  rw [bitAnd_pp (Int.natCast_nonneg _) (Int.natCast_nonneg _), Int.toNat_natCast, Int.toNat_natCast]
theorem bitAnd_low {x : Nat} (h : 0 < x) : Builtin.bitAnd (x : Int) (-(x : Int)) = ((lowb x : Nat) : Int) := by
  have h1 : decide (0 ≤ (x : Int)) = true := decide_eq_true (by omega)
  have h2 : decide (0 ≤ -(x : Int)) = false := decide_eq_false (by omega)
  unfold Builtin.bitAnd
  rw [h1, h2]
  show (x : Int) - (((x : Int).toNat &&& (Builtin.bitNot (-(x : Int))).toNat : Nat) : Int) = _
  have e : (Builtin.bitNot (-(x : Int))).toNat = x - 1 := by unfold Builtin.bitNot; omega
  rw [e, Int.toNat_natCast]
  unfold lowb
  have := Nat.and_le_left (n := x) (m := x - 1)
  omega
def fpB (x p : Nat) : Bool := decide (p &&& lowb x = lowb x) && decide (p ||| x = x)
theorem fpB_iff {x p : Nat} : fpB x p = true ↔ FP x p := by
  unfold fpB FP
  rw [Bool.and_eq_true, decide_eq_true_iff, decide_eq_true_iff]
def spFirst : Sp := fun vs H Q _ => ∃ x : Nat, vs = [.int (x : Int)] ∧ 0 < x ∧ x < 256 ∧ ∀ (l : Addr) (ps : List Nat) (H' : Hp), Same H H' → H' l = some (.lst (natsV ps)) → ps ≠ [] → ps.length ≤ 256 → (∀ p, p ∈ ps ↔ FP x p) → Q (.ref l) H'
theorem ok_first (T : Txt K mg) : L2.Cl P w K mg base 1 "first_packs" ["place"] spFirst := by
  refine Cl.of T.d_first_packs sc_first_packs (fun vs H Q E h => ?_) (fun _ _ _ _ _ _ us hl => match us, hl with | [_], _ => rfl) (fun f cdv A outer s H vs Q E hr h => ?_)
  · obtain ⟨x, rfl, _⟩ := h
    rfl
  · obtain ⟨x, rfl, hx0, hx, q⟩ := h
    have hlp := low_pos hx0
    have hll := low_le (x := x)
    refine ⟨_, (pss_cons (ps_set (i := 1) sc_first_packs.nd rfl (Or.inr rfl) (pe_op op_and (pv 0) (pe_un un_neg (pv 0))))
      (pss_one (ps_ret (pe_comp (M := ["pack", "first", "place"]) (ρ := [none, some 1, some 0]) (defScope s_first_packs) ["place", "first"] ⟨rfl, by decide +kernel, by decide +kernel, by decide +kernel, rfl, by decide +kernel, by decide +kernel⟩ (pi_range2 (by rfl) T.n_range (pa_cons (pv 1) (pa_cons (pe_op op_add (pv 0) pe_int) pa_nil))) (fun _ _ _ _ _ _ => (pg_name (i := 0) (show (["pack", "first", "place"] : List Str).Nodup by decide +kernel) rfl (Or.inl rfl))) (fun _ _ _ _ _ _ => (pts_one (PW.pt (pw_and (pt_cmpR op_eq (pe_op op_and (pv 0) (pv 1)) (pv 1) (nomark _)) (pw_and1 (pt_cmpR op_eq (pe_op op_or (pv 0) (pv 2)) (pv 2) (nomark _))))))) (fun _ _ _ _ _ _ => (pv 0)))))), ?_⟩
    refine ⟨_, rfl, _, rfl, _, rfl, _, _, rfl, rfl, ?_⟩
    show gName 1 (V.int (Builtin.bitAnd (x : Int) (-(x : Int)))) _ _ _
    rw [bitAnd_low hx0]
    refine ⟨_, rfl, _, rfl, _, _, rfl, rfl, _, _, rfl, ?_⟩
    have hn : (((x : Int) + 1) - ((lowb x : Nat) : Int)).toNat = x + 1 - lowb x := by omega
    refine ⟨⟨by omega, by omega, by omega, by omega⟩, fun D gD => ?_⟩
    rw [hn]
    refine comp_by (x + 1 - lowb x) (fun i σ H2 => ∃ v0 : Option V, σ = [v0, some (.int ((lowb x : Nat) : Int)), some (.int (x : Int))] ∧ Same H H2 ∧ H2 D = some (.lst (natsV (((List.range i).map fun j => lowb x + j).filter (fpB x))))) ⟨_, rfl, (Same.refl H).new gD, upd_same⟩ ?_ ?_
    · rintro i σ H2 hi ⟨v0, rfl, s2, hD2⟩
      have hyl : (natsV (((List.range i).map fun j => lowb x + j).filter (fpB x))).length ≤ 256 := by
        rw [natsV_len]
        have := List.length_filter_le (fpB x) ((List.range i).map fun j => lowb x + j)
        rw [List.length_map, List.length_range] at this
        omega
      refine ⟨hi, ?_⟩
      rintro y H3 ⟨rfl, rfl⟩
      have hsn : (((List.range (i + 1)).map fun j => lowb x + j).filter (fpB x)) = (((List.range i).map fun j => lowb x + j).filter (fpB x)) ++ if fpB x (lowb x + i) = true then [lowb x + i] else [] := by
        rw [List.range_succ, List.map_append, List.filter_append]
        by_cases e : fpB x (lowb x + i) = true
        · rw [if_pos e, List.map_cons, List.filter_cons_of_pos e]; rfl
        · rw [if_neg e, List.map_cons, List.filter_cons_of_neg e]; rfl
      have ec : ((lowb x : Nat) : Int) + (i : Int) = ((lowb x + i : Nat) : Int) := by omega
      rw [ec]
      refine tand_pure (a := decide ((lowb x + i) &&& lowb x = lowb x)) (b := decide ((lowb x + i) ||| x = x)) (fun Q' h => ?_) (fun Q' h => ?_) _ ?_
      · refine ⟨_, rfl, _, rfl, _, _, rfl, rfl, _, rfl, rfl, _, rfl, ?_⟩
        have e : decide (V.int (Builtin.bitAnd ((lowb x + i : Nat) : Int) ((lowb x : Nat) : Int)) = V.int ((lowb x : Nat) : Int)) = decide ((lowb x + i) &&& lowb x = lowb x) := by
          rw [bitAnd_nat]
          exact decide_eq_decide.mpr ⟨fun z => Int.ofNat.inj (V.int.inj z), fun z => by rw [z]⟩
        show Q' (decide (V.int (Builtin.bitAnd ((lowb x + i : Nat) : Int) ((lowb x : Nat) : Int)) = V.int ((lowb x : Nat) : Int))) _
        rw [e]
        exact h
      · refine ⟨_, rfl, _, rfl, _, _, rfl, rfl, _, rfl, rfl, _, rfl, ?_⟩
        have e : decide (V.int (Builtin.bitOr ((lowb x + i : Nat) : Int) (x : Int)) = V.int (x : Int)) = decide ((lowb x + i) ||| x = x) := by
          rw [bitOr_nat]
          exact decide_eq_decide.mpr ⟨fun z => Int.ofNat.inj (V.int.inj z), fun z => by rw [z]⟩
        show Q' (decide (V.int (Builtin.bitOr ((lowb x + i : Nat) : Int) (x : Int)) = V.int (x : Int))) _
        rw [e]
        exact h
      show if fpB x (lowb x + i) = true then _ else _
      refine ite2 (fun e => ?_) (fun e => ?_)
      · refine ⟨_, rfl, _, hD2, small1000 (by omega), _, rfl, s2.put gD, ?_⟩
        rw [upd_same, hsn, if_pos e, natsV_snoc]
      · refine ⟨_, rfl, s2, ?_⟩
        rw [hsn, if_neg e, List.append_nil]
        exact hD2
    · rintro σ H2 ⟨v0, rfl, s2, hD2⟩
      refine ⟨Nat.le_refl _, ?_⟩
      have hmem : ∀ p, p ∈ (((List.range (x + 1 - lowb x)).map fun j => lowb x + j).filter (fpB x)) ↔ FP x p := fun p => by
        rw [List.mem_filter, fpB_iff]
        refine ⟨fun z => z.2, fun z => ⟨?_, z⟩⟩
        have := z.le
        exact List.mem_map.mpr ⟨p - lowb x, List.mem_range.mpr (by omega), by omega⟩
      refine q D _ H2 s2 hD2 (fun z => ?_) ?_ hmem
      · have := (hmem x).mpr (FP_self hx0)
        rw [z] at this
        simp at this
      · have := List.length_filter_le (fpB x) ((List.range (x + 1 - lowb x)).map fun j => lowb x + j)
        rw [List.length_map, List.length_range] at this
        omega
def PrB (H : Hp) (v : V) (x : Int × Nat) : Prop := ∃ t, v = .ref t ∧ H t = some (.tup [.int x.1, .int (x.2 : Int)])
theorem PrB.mono {H H' : Hp} (s : Tups H H') {v : V} {x : Int × Nat} (h : PrB H v x) : PrB H' v x := by
  obtain ⟨t, e, h⟩ := h
  exact ⟨t, e, s _ _ h⟩
def spBest : Sp := fun vs H Q _ => ∃ (a : Addr) (us : List V) (gs : List Gp) (t : Int), vs = [.ref a, .int t] ∧ H a = some (.tup us) ∧ Paired (GAt H) us gs ∧ GsOk gs ∧ gs.length ≤ 8 ∧ ∀ (l : Addr) (vs : List V) (bs : List (Int × Nat)) (H' : Hp), Same H H' → H' l = some (.lst vs) → Paired (PrB H') vs bs → Opt (prc gs t) bs → bs.length = 2 ^ gs.length → Q (.ref l) H'
theorem ok_best (T : Txt K mg) : L2.Cl P w K mg base 3 "best_packs" ["groups", "toll"] spBest := by
  have C_pack_price := ok_packP (P := P) (w := w) (base := base) T
  have C_numbers_in := ok_in2 (P := P) (w := w) (base := base) T
  have C_first_packs := ok_first (P := P) (w := w) (base := base) T
  refine Cl.of T.d_best_packs sc_best_packs (fun vs H Q E h => ?_) (fun _ _ _ _ _ _ us hl => match us, hl with | [_, _], _ => rfl) (fun f cdv A outer s H vs Q E hr h => ?_)
  · obtain ⟨a, us, gs, t, rfl, _⟩ := h
    rfl
  · obtain ⟨a, us, gs, t, rfl, ha, hus, hok, hg8, q⟩ := h
    have hul : us.length = gs.length := Paired.length hus
    have hu := hu_of hr
    have h256 : 2 ^ gs.length ≤ 256 := two_le hg8
    have hpos : 0 < 2 ^ gs.length := Nat.two_pow_pos _
    refine ⟨_, (pss_cons (ps_if (pt_cmpR op_gt (pe_callB call_len_seq (by rfl) T.n_len PySem.boot_len (pa_cons (pv 0) pa_nil)) (pe_globS T.g_MOST_GROUPS (by rfl)) (nomark _))
        (pss_one ps_never) pss_nil)
      (pss_cons (ps_set (i := 2) sc_best_packs.nd rfl (Or.inr rfl) (pe_comp (M := ["pack", "groups", "toll"]) (ρ := [none, some 0, some 1]) (defScope s_best_packs) ["groups", "toll", "prices", "best", "place"] ⟨rfl, by decide +kernel, by decide +kernel, by decide +kernel, rfl, by decide +kernel, by decide +kernel⟩ (pi_range1 (by rfl) T.n_range (pa_cons (pe_op op_shl pe_int (pe_callB call_len_seq (by rfl) T.n_len PySem.boot_len (pa_cons (pv 0) pa_nil))) pa_nil)) (fun _ _ _ _ _ _ => (pg_name (i := 0) (show (["pack", "groups", "toll"] : List Str).Nodup by decide +kernel) rfl (Or.inl rfl))) (fun _ _ _ _ _ _ => pts_nil) (fun _ _ _ _ _ _ => (pe_fn C_pack_price hr (by rfl) (pa_cons (pv 1) (pa_cons (pv 2) (pa_cons (pe_fn C_numbers_in hr (by rfl) (pa_cons (pv 0) pa_nil)) pa_nil)))))))
      (pss_cons (ps_set (i := 3) sc_best_packs.nd rfl (Or.inr rfl) (pe_lst (pa_cons (pe_tup (pa_cons pe_int (pa_cons pe_int pa_nil))) pa_nil)))
      (pss_cons (ps_for PassesOwn.never rfl (pi_range2 (by rfl) T.n_range (pa_cons pe_int (pa_cons (pe_callB call_len_seq (by rfl) T.n_len PySem.boot_len (pa_cons (pv 2) pa_nil)) pa_nil))) (pg_name (i := 4) sc_best_packs.nd rfl (Or.inr rfl))
        (pss_one (ps_expr (pe_bm PySem.F.plainAttrs_list PySem.F.slot_list_append PySem.F.type_list_append mt_append (pv 3) (pa_cons (pe_callB (call_minP rfl hu) (by rfl) T.n_min boot_min (pa_cons (pe_comp (M := ["pack", "prices", "best", "place"]) (ρ := [none, some 2, some 3, some 4]) (defScope s_best_packs) ["groups", "toll", "prices", "best", "place"] ⟨rfl, by decide +kernel, by decide +kernel, by decide +kernel, rfl, by decide +kernel, by decide +kernel⟩ (pi_list (pe_fn C_first_packs hr (by rfl) (pa_cons (pv 4) pa_nil))) (fun _ _ _ _ _ _ => (pg_name (i := 0) (show (["pack", "prices", "best", "place"] : List Str).Nodup by decide +kernel) rfl (Or.inl rfl))) (fun _ _ _ _ _ _ => pts_nil) (fun _ _ _ _ _ _ => (pe_tup (pa_cons (pe_op op_add (pe_ix (ix_listK (K := K) rfl) (pv 1) (pv 0) (fun _ _ => rfl)) (pe_ix (ix_tupK (K := K) rfl) (pe_ix (ix_listK (K := K) rfl) (pv 2) (pe_op op_sub (pv 3) (pv 0)) (fun _ _ => rfl)) pe_int (fun _ _ => rfl))) (pa_cons (pv 0) pa_nil))))) pa_nil)) pa_nil)))))
      (pss_one (ps_ret (pv 3))))))), ?_⟩
    refine ⟨_, rfl, a, _, rfl, .inr (SqT.of ha), _, _, rfl, rfl, _, rfl, ite2 (fun hh => absurd (of_decide_eq_true hh) (by omega)) fun _ => ?_⟩
    refine ⟨_, rfl, a, _, rfl, .inr (SqT.of ha), _, _, rfl, rfl, ⟨by omega, by omega, by decide⟩, _, rfl, ?_⟩
    have e2 : (1 : Int) * 2 ^ ((us.length : Int)).toNat = ((2 ^ gs.length : Nat) : Int) := by
      rw [Int.one_mul, Int.toNat_natCast, hul, Int.natCast_pow]
      rfl
    rw [e2]
    refine ⟨by omega, by omega, fun D gD => ?_⟩
    rw [Int.toNat_natCast]
    refine comp_by (2 ^ gs.length) (fun i σ H2 => ∃ v0 : Option V, σ = [v0, some (.ref a), some (.int t)] ∧ Same H H2 ∧ H2 D = some (.lst (((lones gs t).take i).map V.int))) ⟨_, rfl, (Same.refl H).new gD, by rw [upd_same, List.take_zero]; rfl⟩ ?_ ?_
    · rintro i σ H2 hi ⟨v0, rfl, s2, hD2⟩
      refine ⟨hi, ?_⟩
      rintro y H3 ⟨rfl, rfl⟩
      refine ntG ?_
      rw [Int.zero_add]
      have hi24 : i < 2 ^ 24 := Nat.lt_of_lt_of_le (Nat.lt_of_lt_of_le hi h256) (by decide)
      have hlj : (lones gs t)[i]? = some (prc gs t i) := by
        unfold lones
        rw [List.getElem?_map, List.getElem?_range hi]
        rfl
      refine ⟨_, rfl, _, rfl, _, rfl, i, rfl, hi24, fun p H4 s4 hp => ?_⟩
      have s24 := s2.trans s4
      refine ⟨a, p, us, gs, t, bitsL i, rfl, s24 _ _ ha, Paired.mapP hus fun _ _ z => z.mono s24.tups, hok, hp, fun k hk => bitsL_lt hi (by omega) hk, fun H5 s5 => ?_⟩
      refine ⟨_, s5 _ _ (s4 _ _ hD2), small1000 (by rw [List.length_map, List.length_take, lones_len]; omega), _, rfl, (s24.trans s5).put gD, ?_⟩
      rw [upd_same, take_succ_get hlj, List.map_append]
      rfl
    rintro σ H2 ⟨v0, rfl, s2, hD2⟩
    refine ⟨Nat.le_refl _, ?_⟩
    rw [← lones_len gs t, List.take_length] at hD2
    refine ⟨(by show 2 ≤ sizeLine; decide), fun q0 gq => ?_⟩
    have s3 : Same H2 (upd H2 q0 (.tup [.int 0, .int 0])) := (Same.refl H2).new gq
    have hq0 : upd H2 q0 (.tup [.int 0, .int 0]) q0 = some (.tup [.int 0, .int 0]) := upd_same
    generalize upd H2 q0 (.tup [.int 0, .int 0]) = H3 at s3 hq0 ⊢
    have hD3 := s3 _ _ hD2
    refine ⟨(by show 1 ≤ sizeLine; decide), fun B gB => ?_⟩
    have hBD : D ≠ B := fun z => by rw [← z, hD3] at gB; cases gB
    have gBH : H B = none := s2.free (s3.free gB)
    have s4 : Same H (upd H3 B (.lst [.ref q0])) := (s2.trans s3).new gB
    have hD4 : upd H3 B (.lst [.ref q0]) D = some (.lst ((lones gs t).map V.int)) := upd_keep hD3 gB
    have hB4 : upd H3 B (.lst [.ref q0]) B = some (.lst [.ref q0]) := upd_same
    have hq4 : upd H3 B (.lst [.ref q0]) q0 = some (.tup [.int 0, .int 0]) := upd_keep hq0 gB
    generalize upd H3 B (.lst [.ref q0]) = H4 at s4 hD4 hB4 hq4 ⊢
    refine ⟨_, rfl, D, _, rfl, .inl (SqL.of hD4), _, _, rfl, ?_⟩
    rw [List.length_map, lones_len]
    have hn : (((2 ^ gs.length : Nat) : Int) - 1).toNat = 2 ^ gs.length - 1 := by omega
    refine ⟨⟨by omega, by omega, by omega, by omega⟩, ?_⟩
    rw [hn]
    refine for_range (fun i σ H5 => ∃ (v4 : Option V) (vs : List V) (bs : List (Int × Nat)), σ = [some (.ref a), some (.int t), some (.ref D), some (.ref B), v4] ∧ Same H H5 ∧ H5 D = some (.lst ((lones gs t).map V.int)) ∧ H5 B = some (.lst vs) ∧ Paired (PrB H5) vs bs ∧ Opt (prc gs t) bs ∧ bs.length = i + 1)
      ⟨none, [.ref q0], [(0, 0)], rfl, s4, hD4, hB4, .cons ⟨q0, rfl, hq4⟩ .nil, ⟨fun v e => (Option.some.inj e).symm, fun x v hx e => ?_, fun x v hx e => ?_⟩, rfl⟩ ?_ ?_
    · rw [List.getElem?_eq_none (by simp; omega)] at e; cases e
    · rw [List.getElem?_eq_none (by simp; omega)] at e; cases e
    · rintro i σ H5 hi ⟨v4, vs, bs, rfl, s5, hD5, hB5, hvs, hopt, hbl⟩
      have hvl : vs.length = bs.length := Paired.length hvs
      have ex : (1 : Int) + (i : Int) = ((bs.length : Nat) : Int) := by omega
      rw [ex]
      refine ⟨_, rfl, .inl ⟨rfl, _, SqL.of hB5⟩, _, rfl, bs.length, rfl, by omega, by omega, fun l ps H6 s6 hl hpne hpl hpm => ?_⟩
      refine ⟨l, rfl, ⟨_, SqL.of hl⟩, fun D7 gD7 => ?_⟩
      refine comp_by ps.length (fun j σ H7 => ∃ (v0 : Option V) (ws : List V), σ = [v0, some (.ref D), some (.ref B), some (.int ((bs.length : Nat) : Int))] ∧ Same H6 H7 ∧ H7 D7 = some (.lst ws) ∧ Paired (PrB H7) ws ((ps.take j).map fun p => (prc gs t p + (bs.getD (bs.length - p) (0, 0)).1, p))) ⟨_, [], rfl, (Same.refl H6).new gD7, upd_same, by rw [List.take_zero]; exact .nil⟩ ?_ ?_
      · rintro j σ H7 hj ⟨v0, ws, rfl, s7, hD7, hws⟩
        refine ⟨⟨_, .int (ps[j] : Int), SqL.of (s7 _ _ hl), by unfold natsV; simp [hj]⟩, ?_⟩
        rintro y H8 ⟨rfl, hy⟩
        obtain ⟨p, hp, rfl⟩ := natsV_get (hy _ (SqL.of (s7 _ _ hl)))
        have hfp := (hpm p).mp (List.mem_of_getElem? hp)
        have hple := hfp.le
        have hlp := low_pos (x := bs.length) (by omega)
        have hwl : ws.length ≤ 256 := by rw [Paired.length hws, List.length_map, List.length_take]; omega
        have s67 := s6.trans s7
        have hlj : (lones gs t)[p]? = some (prc gs t p) := by
          unfold lones
          rw [List.getElem?_map, List.getElem?_range (by omega)]
          rfl
        have atp : atI ((lones gs t).map V.int) (p : Int) = some (.int (prc gs t p)) := atI_nat (by rw [List.getElem?_map, hlj]; rfl)
        have hb : bs[bs.length - p]? = some bs[bs.length - p] := List.getElem?_eq_getElem (by omega)
        obtain ⟨u, hu', tb, eb, htb⟩ := Paired.get?' hvs hb
        subst eb
        have hgd : bs.getD (bs.length - p) (0, 0) = bs[bs.length - p] := by rw [List.getD_eq_getElem?_getD, hb]; rfl
        have atb : atI vs (((bs.length : Nat) : Int) - (p : Int)) = some (.ref tb) := by
          rw [show ((bs.length : Nat) : Int) - (p : Int) = ((bs.length - p : Nat) : Int) by omega]
          exact atI_nat hu'
        have z0 : atI [V.int (bs[bs.length - p]).1, V.int ((bs[bs.length - p]).2 : Int)] 0 = some (.int (bs[bs.length - p]).1) := atI_nat (j := 0) rfl
        refine ntG ?_
        refine ⟨_, rfl, _, rfl, D, _, _, _, rfl, rfl, SqL.of (s67 _ _ hD5), atp, _, rfl, _, rfl, _, rfl, _, _, rfl, rfl, B, _, _, _, rfl, rfl, SqL.of (s67 _ _ hB5), atb, tb, _, _, _, rfl, rfl, SqT.of (s67 _ _ htb), z0, _, _, rfl, rfl, _, rfl, (by show 2 ≤ sizeLine; decide), fun r gr => ?_⟩
        have s8 := (Same.refl H8).new (o := .tup [.int (prc gs t p + (bs[bs.length - p]).1), .int (p : Int)]) gr
        have T9 := Tups.lst (ys := ws ++ [.ref r]) (s8 _ _ hD7)
        refine ⟨ws, s8 _ _ hD7, small1000 (by omega), _, ws ++ [.ref r], rfl, (s7.trans s8).put gD7, upd_same, ?_⟩
        rw [take_succ_get hp, List.map_append]
        refine Paired.snoc (Paired.mapP hws fun _ _ z => z.mono (s8.tups.trans T9)) ⟨r, rfl, T9 _ _ ?_⟩
        rw [upd_same]
        show _ = some (HO.tup [V.int (prc gs t p + (bs.getD (bs.length - p) (0, 0)).1), V.int (p : Int)])
        rw [hgd]
      rintro σ H7 ⟨v0, ws, rfl, s7, hD7, hws⟩
      refine ⟨⟨_, SqL.of (s7 _ _ hl), by rw [natsV_len]; exact Nat.le_refl _⟩, ?_⟩
      rw [List.take_length] at hws
      refine ⟨D7, ws, (ps.map fun p => (prc gs t p + (bs.getD (bs.length - p) (0, 0)).1, p)).map fun x => (x.1, (x.2 : Int)), rfl, SqL.of hD7, ?_, fun z => hpne (List.map_eq_nil_iff.mp (List.map_eq_nil_iff.mp z)), fun k v n hv hn hmin => ?_⟩
      · clear hD7
        generalize (ps.map fun p => (prc gs t p + (bs.getD (bs.length - p) (0, 0)).1, p)) = xs at hws ⊢
        induction hws with
        | nil => exact .nil
        | cons h _ ih =>
          obtain ⟨tt, e, ht⟩ := h
          exact .cons ⟨tt, e, SqT.of ht⟩ ih
      obtain ⟨x, hx, tv, ev, htv⟩ := Paired.get? hws hv
      subst ev
      rw [List.getElem?_map] at hx
      cases ep : ps[k]? with
      | none => rw [ep] at hx; cases hx
      | some p =>
        rw [ep] at hx
        cases hx
        have hn' : n = (prc gs t p + (bs.getD (bs.length - p) (0, 0)).1, (p : Int)) := by
          rw [List.getElem?_map, List.getElem?_map, ep] at hn
          exact (Option.some.inj hn).symm
        have hfp := (hpm p).mp (List.mem_of_getElem? ep)
        have hB7 := (s6.trans s7) _ _ hB5
        refine ⟨B, _, _, rfl, rfl, hB7, small1000 (by omega), ?_⟩
        have T8 := Tups.lst (ys := vs ++ [.ref tv]) hB7
        refine ⟨_, vs ++ [.ref tv], bs ++ [(prc gs t p + (bs.getD (bs.length - p) (0, 0)).1, p)], rfl, ((s5.trans s6).trans s7).put gBH, ?_, upd_same, ?_, ?_, ?_⟩
        · rw [upd_ne hBD]; exact (s6.trans s7) _ _ hD5
        · exact Paired.snoc (Paired.mapP hvs fun _ _ z => z.mono ((s6.trans s7).tups.trans T8)) ⟨tv, rfl, T8 _ _ htv⟩
        · refine hopt.snoc (by omega) hfp rfl fun p' hp' => ?_
          have h1 := hmin (prc gs t p' + (bs.getD (bs.length - p') (0, 0)).1, (p' : Int)) (List.mem_map.mpr ⟨_, List.mem_map.mpr ⟨p', (hpm p').mpr hp', rfl⟩, rfl⟩)
          rw [hn'] at h1
          exact h1
        · rw [List.length_append, hbl]; rfl
    · rintro σ H5 ⟨v4, vs, bs, rfl, s5, hD5, hB5, hvs, hopt, hbl⟩
      exact ⟨_, rfl, q B vs bs H5 s5 hB5 hvs hopt (by omega)⟩
def spTable : Sp := fun vs H Q _ => ∃ (a : Addr) (us : List V) (gs : List Gp) (t : Int), vs = [.ref a, .int t] ∧ H a = some (.tup us) ∧ Paired (GAt H) us gs ∧ GsOk gs ∧ gs.length ≤ 8 ∧ ∀ (p : Addr) (bs : List (Int × Nat)) (H' : Hp), Same H H' → H' p = some (.tup ((bs.map (·.1)).map V.int)) → Opt (prc gs t) bs → bs.length = 2 ^ gs.length → Q (.ref p) H'
theorem ok_table (T : Txt K mg) : L2.Cl P w K mg base 4 "table" ["groups", "toll"] spTable := by
  have C_best_packs := ok_best (P := P) (w := w) (base := base) T
  refine Cl.of T.d_table sc_table (fun vs H Q E h => ?_) (fun _ _ _ _ _ _ us hl => match us, hl with | [_, _], _ => rfl) (fun f cdv A outer s H vs Q E hr h => ?_)
  · obtain ⟨a, us, gs, t, rfl, _⟩ := h
    rfl
  · obtain ⟨a, us, gs, t, rfl, ha, hus, hok, hg8, q⟩ := h
    have h256 : 2 ^ gs.length ≤ 256 := two_le hg8
    refine ⟨_, (pss_one (ps_ret (pe_callTy call_tuple_of (by rfl) T.n_tuple boot_tuple (pa_cons (pe_comp (M := ["least", "pack"]) (ρ := [none, none]) (defScope s_table) ["groups", "toll"] ⟨rfl, by decide +kernel, by decide +kernel, by decide +kernel, rfl, by decide +kernel, by decide +kernel⟩ (pi_list (pe_fn C_best_packs hr (by rfl) (pa_cons (pv 0) (pa_cons (pv 1) pa_nil)))) (fun _ _ _ _ _ _ => (pg_tupK (K := K) (n := 2) rfl rfl (pgs_cons (pg_name (i := 0) (show (["least", "pack"] : List Str).Nodup by decide +kernel) rfl (Or.inl rfl)) (pgs_cons (pg_name (i := 1) (show (["least", "pack"] : List Str).Nodup by decide +kernel) rfl (Or.inl rfl)) pgs_nil)))) (fun _ _ _ _ _ _ => pts_nil) (fun _ _ _ _ _ _ => (pv 0))) pa_nil)))), ?_⟩
    refine ⟨_, rfl, _, rfl, a, us, gs, t, rfl, ha, hus, hok, hg8, fun l vs bs H1 s1 hl hvs hopt hbl => ?_⟩
    have hvl : vs.length = bs.length := Paired.length hvs
    refine ⟨l, rfl, ⟨_, SqL.of hl⟩, fun D gD => ?_⟩
    refine comp_by vs.length (fun i σ H2 => ∃ v0 v1 : Option V, σ = [v0, v1] ∧ Same H1 H2 ∧ H2 D = some (.lst (((bs.take i).map (·.1)).map V.int))) ⟨_, _, rfl, (Same.refl H1).new gD, by rw [upd_same, List.take_zero]; rfl⟩ ?_ ?_
    · rintro i σ H2 hi ⟨v0, v1, rfl, s2, hD2⟩
      refine ⟨⟨vs, vs[i], SqL.of (s2 _ _ hl), by simp⟩, ?_⟩
      rintro y H4 ⟨rfl, hy4⟩
      obtain ⟨x, hx, t4, ey, ht4⟩ := Paired.get? hvs (hy4 _ (SqL.of (s2 _ _ hl)))
      subst ey
      refine ⟨t4, _, rfl, SqT.of (s2 _ _ ht4), rfl, _, _, rfl, _, _, rfl, rfl, ?_⟩
      refine nt ?_
      refine ⟨_, rfl, _, hD2, small1000 (by rw [List.length_map, List.length_map, List.length_take]; omega), _, _, rfl, s2.put gD, ?_⟩
      rw [upd_same, take_succ_get hx, List.map_append, List.map_append]
      rfl
    · rintro σ H2 ⟨v0, v1, rfl, s2, hD2⟩
      refine ⟨⟨vs, SqL.of (s2 _ _ hl), Nat.le_refl _⟩, ?_⟩
      rw [hvl, List.take_length] at hD2
      refine ⟨D, _, rfl, .inl ⟨SqL.of hD2, fun p gp => ?_⟩⟩
      exact q p bs _ ((s1.trans s2).new gp) upd_same hopt hbl
def spNumbers : Sp := fun vs H Q _ => ∃ (p : Addr) (zs : List Int), vs = [.ref p, .int (zs.length : Int)] ∧ H p = some (.tup (zs.map V.int)) ∧ zs.length ≤ 256 ∧ ∀ H', Same H H' → Q (.bl true) H'
theorem ok_numbers (T : Txt K mg) : L2.Cl P w K mg base 2 "_law_numbers" ["_law_found", "_law_many"] spNumbers := by
  have C_law_whole := ok_whole (P := P) (w := w) (base := base) T
  refine Cl.of T.d_law_numbers sc_law_numbers (fun vs H Q E h => ?_) (fun _ _ _ _ _ _ us hl => match us, hl with | [_, _], _ => rfl) (fun f cdv A outer s H vs Q E hr h => ?_)
  · obtain ⟨p, zs, rfl, _⟩ := h
    rfl
  · obtain ⟨p, zs, rfl, hp, hzl, q⟩ := h
    refine ⟨_, (pss_cons (ps_if (PW.pt (pw_or (pt_not (pt_val (pe_callB call_isinst (by rfl) T.n_isinstance PyProof.Rows.boot_isinstance (pa_cons (pv 0) (pa_cons (pe_bltn (v := .ty "tuple") (by rfl) T.n_tuple boot_tuple rfl) pa_nil))))) (pw_or1 (pt_cmpR op_ne (pe_callB call_len_seq (by rfl) T.n_len PySem.boot_len (pa_cons (pv 0) pa_nil)) (pv 1) (nomark _)))))
        (pss_one (ps_ret pe_bl)) pss_nil)
      (pss_one (ps_ret (pe_cmpR op_eq (pe_callB call_len_seq (by rfl) T.n_len PySem.boot_len (pa_cons (pe_comp (M := ["_law_number"]) (ρ := [none]) (defScope s_law_numbers) ["_law_found", "_law_many"] ⟨rfl, by decide +kernel, by decide +kernel, by decide +kernel, rfl, by decide +kernel, by decide +kernel⟩ (pi_tup (pv 0)) (fun _ _ _ _ _ _ => (pg_name (i := 0) (show (["_law_number"] : List Str).Nodup by decide +kernel) rfl (Or.inl rfl))) (fun _ _ _ _ _ _ => (pts_one (pt_val (pe_fn C_law_whole hr (by rfl) (pa_cons (pv 0) pa_nil))))) (fun _ _ _ _ _ _ => (pv 0))) pa_nil)) (pv 1) (nomark _))))), ?_⟩
    refine ⟨_, rfl, _, _, _, _, rfl, .tup hp, kit_same _ _, _, rfl, iteF ?_⟩
    refine ⟨_, rfl, p, _, rfl, .inr (SqT.of hp), _, rfl, rfl, _, rfl, ?_⟩
    rw [List.length_map]
    refine neIF ?_
    refine ⟨_, rfl, p, rfl, ⟨_, SqT.of hp⟩, fun D gD => ?_⟩
    refine comp_by zs.length (fun i σ H2 => ∃ v0 : Option V, σ = [v0] ∧ Same H H2 ∧ H2 D = some (.lst ((zs.take i).map V.int))) ⟨_, rfl, (Same.refl H).new gD, by rw [upd_same, List.take_zero]; rfl⟩ ?_ ?_
    · rintro i σ H2 hi ⟨v0, rfl, s2, hD2⟩
      refine ⟨⟨_, .int zs[i], SqT.of (s2 _ _ hp), by simp [hi]⟩, ?_⟩
      rintro y H3 ⟨rfl, hy⟩
      have hn : zs[i]? = some zs[i] := by simp [hi]
      have ey : y = .int zs[i] := Option.some.inj ((hy _ (SqT.of (s2 _ _ hp))).symm.trans (by rw [List.getElem?_map, hn]; rfl))
      subst ey
      refine ⟨_, rfl, _, rfl, _, rfl, iteT ?_⟩
      refine ⟨_, rfl, _, hD2, small1000 (by rw [List.length_map, List.length_take]; omega), _, rfl, s2.put gD, ?_⟩
      rw [upd_same, take_succ_get hn, List.map_append]
      rfl
    · rintro σ H2 ⟨v0, rfl, s2, hD2⟩
      refine ⟨⟨_, SqT.of (s2 _ _ hp), by simp⟩, ?_⟩
      rw [List.take_length] at hD2
      refine ⟨D, _, rfl, .inl (SqL.of hD2), _, rfl, rfl, ?_⟩
      rw [List.length_map, decide_eq_true rfl]
      exact q H2 s2
def PLt (H : Hp) (v : V) (ks : List Nat) : Prop := ∃ t, v = .ref t ∧ H t = some (.lst (natsV ks))
def CutLt (H : Hp) (c : Addr) (gs : List Gp) (kss : List (List Nat)) : Prop := ∃ ws, H c = some (.lst ws) ∧ Paired (PLt H) ws kss ∧ (∀ ks ∈ kss, ∀ k ∈ ks, k < gs.length)
def spPaid : Sp := fun vs H Q _ => ∃ (a c : Addr) (us : List V) (gs : List Gp) (t : Int) (kss : List (List Nat)), vs = [.ref a, .int t, .ref c] ∧ H a = some (.tup us) ∧ Paired (GAt H) us gs ∧ GsOk gs ∧ (CutAt H c gs kss ∨ CutLt H c gs kss) ∧ ∀ H', Same H H' → Q (.int (totP gs t kss)) H'
theorem ok_paid2 (T : Txt K mg) : L2.Cl P w K mg base 2 "_law_paid" ["_law_told", "_law_toll_here", "_law_cut"] spPaid := by
  have C_law_ones := ok_ones (P := P) (w := w) (base := base) T
  refine Cl.of T.d_law_paid sc_law_paid (fun vs H Q E h => ?_) (fun _ _ _ _ _ _ us hl => match us, hl with | [_, _, _], _ => rfl) (fun f cdv A outer s H vs Q E hr h => ?_)
  · obtain ⟨a, c, us, gs, t, kss, rfl, _⟩ := h
    rfl
  · obtain ⟨a, c, us, gs, t, kss, rfl, ha, hus, hok, hcut, q⟩ := h
    refine ⟨_, (pss_cons (ps_set (i := 3) sc_law_paid.nd rfl (Or.inl rfl) pe_int)
      (pss_cons (ps_for PassesOwn.never rfl (pi_or (pi_tup (pv 2)) (pi_list (pv 2))) (pg_name (i := 4) sc_law_paid.nd rfl (Or.inl rfl))
        (pss_cons (ps_set (i := 5) sc_law_paid.nd rfl (Or.inl rfl) pe_int)
        (pss_cons (ps_set (i := 6) sc_law_paid.nd rfl (Or.inl rfl) (pv 1))
        (pss_cons (ps_for PassesOwn.never rfl (pi_or (pi_tup (pv 4)) (pi_list (pv 4))) (pg_name (i := 7) sc_law_paid.nd rfl (Or.inl rfl))
          (pss_cons (ps_set (i := 5) sc_law_paid.nd rfl (Or.inl rfl) (pe_op op_or (pv 5) (pe_ix ix_tup (pe_ix ix_tup (pv 0) (pv 7) (fun _ _ => rfl)) pe_int (fun _ _ => rfl))))
          (pss_one (ps_set (i := 6) sc_law_paid.nd rfl (Or.inl rfl) (pe_op op_add (pv 6) (pe_ix ix_tup (pe_ix ix_tup (pv 0) (pv 7) (fun _ _ => rfl)) pe_int (fun _ _ => rfl)))))))
        (pss_one (ps_set (i := 3) sc_law_paid.nd rfl (Or.inl rfl) (pe_op op_add (pv 3) (pe_op op_mul (pe_fn C_law_ones hr (by rfl) (pa_cons (pv 5) pa_nil)) (pv 6)))))))))
      (pss_one (ps_ret (pv 3))))), ?_⟩
    rcases hcut with ⟨ws, hc, hws, hks, hkl⟩ | ⟨ws, hc, hws, hks⟩
    · have hwl : ws.length = kss.length := Paired.length hws
      refine .inl ⟨_, rfl, c, rfl, ⟨_, SqT.of hc⟩, for_tup (K := K) (a := c) (xs := ws) (fun i σ H2 => H2 = H ∧ ∃ v4 v5 v6 v7 : Option V, σ = [some (.ref a), some (.int t), some (.ref c), some (.int (totP gs t (kss.take i))), v4, v5, v6, v7])
        ⟨rfl, none, none, none, none, rfl⟩ (fun i σ H2 _ ⟨e, _⟩ => by rw [e]; exact SqT.of hc) ?_ ?_⟩
      · rintro i y σ H2 hy ⟨rfl, v4, v5, v6, v7, rfl⟩
        obtain ⟨ks, hkk, b, eb, hb⟩ := Paired.get? hws hy
        subst eb
        have hkb := hks ks (List.mem_of_getElem? hkk)
        refine ⟨_, rfl, ?_⟩
        refine .inl ⟨_, rfl, b, rfl, ⟨_, SqT.of hb⟩, for_tup (K := K) (a := b) (xs := natsV ks) (fun j σ H3 => H3 = H2 ∧ ∃ v7 : Option V, σ = [some (.ref a), some (.int t), some (.ref c), some (.int (totP gs t (kss.take i))), some (.ref b), some (.int (oned gs (ks.take j) : Int)), some (.int (load gs t (ks.take j))), v7])
          ⟨rfl, _, rfl⟩ (fun j σ H3 _ ⟨e, _⟩ => by rw [e]; exact SqT.of hb) ?_ ?_⟩
        · rintro j y σ H3 hy ⟨rfl, v7', rfl⟩
          obtain ⟨k, hk, rfl⟩ := natsV_get hy
          obtain ⟨tt, u, hat, htt⟩ := gp_get hus (hkb k (List.mem_of_getElem? hk))
          have z0 : atI [V.int ((gpAt gs k).1 : Int), u, V.int (gpAt gs k).2] 0 = some (.int ((gpAt gs k).1 : Int)) := atI_nat (j := 0) rfl
          have z2 : atI [V.int ((gpAt gs k).1 : Int), u, V.int (gpAt gs k).2] 2 = some (.int (gpAt gs k).2) := atI_nat (j := 2) rfl
          refine ⟨_, rfl, _, rfl, _, rfl, a, _, _, _, rfl, rfl, SqT.of ha, hat, tt, _, _, _, rfl, rfl, SqT.of htt, z0, _, _, rfl, rfl, ?_⟩
          refine ⟨_, rfl, _, rfl, _, rfl, a, _, _, _, rfl, rfl, SqT.of ha, hat, tt, _, _, _, rfl, rfl, SqT.of htt, z2, _, _, rfl, rfl, ?_⟩
          refine ⟨rfl, some (.int (k : Int)), ?_⟩
          rw [take_succ_get hk, oned_snoc, load_snoc, ← bitOr_nat]
          rfl
        · rintro σ H3 ⟨rfl, v7', rfl⟩
          rw [natsV_len, List.take_length]
          have hlt := oned_lt hok ks
          refine ⟨_, rfl, _, rfl, oned gs ks, rfl, _, rfl, _, _, rfl, rfl, ?_, _, _, rfl, rfl, ?_⟩
          · have h1 := count_bits 24 (oned gs ks) hlt
            have h2 := List.length_filter_le (fun j => (oned gs ks).testBit j) (List.range 24)
            rw [List.length_range] at h2
            exact .inl ⟨by omega, by omega⟩
          · refine ⟨rfl, some (.ref b), some (.int (oned gs ks : Int)), some (.int (load gs t ks)), v7', ?_⟩
            rw [take_succ_get hkk, totP_snoc]
            rfl
      · rintro σ H2 ⟨rfl, v4, v5, v6, v7, rfl⟩
        rw [hwl, List.take_length]
        exact ⟨_, rfl, q _ (Same.refl _)⟩
    · have hwl : ws.length = kss.length := Paired.length hws
      refine .inr ⟨_, rfl, c, rfl, ⟨_, SqL.of hc⟩, for_list (K := K) (a := c) (xs := ws) (fun i σ H2 => H2 = H ∧ ∃ v4 v5 v6 v7 : Option V, σ = [some (.ref a), some (.int t), some (.ref c), some (.int (totP gs t (kss.take i))), v4, v5, v6, v7])
        ⟨rfl, none, none, none, none, rfl⟩ (fun i σ H2 _ ⟨e, _⟩ => by rw [e]; exact SqL.of hc) ?_ ?_⟩
      · rintro i y σ H2 hy ⟨rfl, v4, v5, v6, v7, rfl⟩
        obtain ⟨ks, hkk, b, eb, hb⟩ := Paired.get? hws hy
        subst eb
        have hkb := hks ks (List.mem_of_getElem? hkk)
        refine ⟨_, rfl, ?_⟩
        refine .inr ⟨_, rfl, b, rfl, ⟨_, SqL.of hb⟩, for_list (K := K) (a := b) (xs := natsV ks) (fun j σ H3 => H3 = H2 ∧ ∃ v7 : Option V, σ = [some (.ref a), some (.int t), some (.ref c), some (.int (totP gs t (kss.take i))), some (.ref b), some (.int (oned gs (ks.take j) : Int)), some (.int (load gs t (ks.take j))), v7])
          ⟨rfl, _, rfl⟩ (fun j σ H3 _ ⟨e, _⟩ => by rw [e]; exact SqL.of hb) ?_ ?_⟩
        · rintro j y σ H3 hy ⟨rfl, v7', rfl⟩
          obtain ⟨k, hk, rfl⟩ := natsV_get hy
          obtain ⟨tt, u, hat, htt⟩ := gp_get hus (hkb k (List.mem_of_getElem? hk))
          have z0 : atI [V.int ((gpAt gs k).1 : Int), u, V.int (gpAt gs k).2] 0 = some (.int ((gpAt gs k).1 : Int)) := atI_nat (j := 0) rfl
          have z2 : atI [V.int ((gpAt gs k).1 : Int), u, V.int (gpAt gs k).2] 2 = some (.int (gpAt gs k).2) := atI_nat (j := 2) rfl
          refine ⟨_, rfl, _, rfl, _, rfl, a, _, _, _, rfl, rfl, SqT.of ha, hat, tt, _, _, _, rfl, rfl, SqT.of htt, z0, _, _, rfl, rfl, ?_⟩
          refine ⟨_, rfl, _, rfl, _, rfl, a, _, _, _, rfl, rfl, SqT.of ha, hat, tt, _, _, _, rfl, rfl, SqT.of htt, z2, _, _, rfl, rfl, ?_⟩
          refine ⟨rfl, some (.int (k : Int)), ?_⟩
          rw [take_succ_get hk, oned_snoc, load_snoc, ← bitOr_nat]
          rfl
        · rintro σ H3 ⟨rfl, v7', rfl⟩
          rw [natsV_len, List.take_length]
          have hlt := oned_lt hok ks
          refine ⟨_, rfl, _, rfl, oned gs ks, rfl, _, rfl, _, _, rfl, rfl, ?_, _, _, rfl, rfl, ?_⟩
          · have h1 := count_bits 24 (oned gs ks) hlt
            have h2 := List.length_filter_le (fun j => (oned gs ks).testBit j) (List.range 24)
            rw [List.length_range] at h2
            exact .inl ⟨by omega, by omega⟩
          · refine ⟨rfl, some (.ref b), some (.int (oned gs ks : Int)), some (.int (load gs t ks)), v7', ?_⟩
            rw [take_succ_get hkk, totP_snoc]
            rfl
      · rintro σ H2 ⟨rfl, v4, v5, v6, v7, rfl⟩
        rw [hwl, List.take_length]
        exact ⟨_, rfl, q _ (Same.refl _)⟩
def toI (ks : List Nat) : List Int := ks.map fun (k : Nat) => (k : Int)
theorem natsV_int (ks : List Nat) : natsV ks = (toI ks).map V.int := by unfold natsV toI; rw [List.map_map]; rfl
theorem toI_len (ks : List Nat) : (toI ks).length = ks.length := by unfold toI; simp
theorem toI_up {ks : List Nat} (h : ks.Pairwise (· ≤ ·)) : (toI ks).Pairwise (· ≤ ·) := by
  unfold toI
  rw [List.pairwise_map]
  exact h.imp fun e => Int.ofNat_le.mpr e
def heads (kss : List (List Nat)) : List Nat := kss.map fun ks => ks.headD 0
structure CutP (kss : List (List Nat)) (n : Nat) : Prop where
  ne : ∀ ks ∈ kss, ks ≠ []
  up : ∀ ks ∈ kss, ks.Pairwise (· ≤ ·)
  len : ∀ ks ∈ kss, ks.length ≤ 24
  hd : (heads kss).Pairwise (· ≤ ·)
  all : kss.flatten.Perm (List.range n)
  few : kss.length ≤ 24
theorem flat_le {kss : List (List Nat)} {n i : Nat} (h : CutP kss n) : ((kss.take i).flatten).length ≤ n := by
  have e : kss.flatten = (kss.take i).flatten ++ (kss.drop i).flatten := by rw [← List.flatten_append, List.take_append_drop]
  have h1 := h.all.length_eq
  rw [e, List.length_append, List.length_range] at h1
  omega
theorem toI_perm {a b : List Nat} (h : a.Perm b) : (toI a).Perm (toI b) := by unfold toI; exact h.map _
def spIsCut : Sp := fun vs H Q _ => ∃ (p : Addr) (ws : List V) (kss : List (List Nat)) (n : Nat), vs = [.ref p, .int (n : Int)] ∧ H p = some (.tup ws) ∧ Paired (PAt H) ws kss ∧ CutP kss n ∧ n ≤ 24 ∧ ∀ H', Same H H' → Q (.bl true) H'
theorem ok_is_cut (T : Txt K mg) : L2.Cl P w K mg base 2 "_law_is_cut" ["_law_found", "_law_many"] spIsCut := by
  have C_law_whole := ok_whole (P := P) (w := w) (base := base) T
  refine Cl.of T.d_law_is_cut sc_law_is_cut (fun vs H Q E h => ?_) (fun _ _ _ _ _ _ us hl => match us, hl with | [_, _], _ => rfl) (fun f cdv A outer s H vs Q E hr h => ?_)
  · obtain ⟨p, ws, kss, n, rfl, _⟩ := h
    rfl
  · obtain ⟨p, ws, kss, n, rfl, hp, hws, hok, hn, q⟩ := h
    have hu0 := Nat.lt_of_succ_lt (hu_of hr)
    have hwl : ws.length = kss.length := Paired.length hws
    have hfew := hok.few
    refine ⟨_, (pss_cons (ps_if (pt_not (pt_val (pe_callB call_isinst (by rfl) T.n_isinstance PyProof.Rows.boot_isinstance (pa_cons (pv 0) (pa_cons (pe_bltn (v := .ty "tuple") (by rfl) T.n_tuple boot_tuple rfl) pa_nil)))))
        (pss_one (ps_ret pe_bl)) pss_nil)
      (pss_cons (ps_set (i := 2) sc_law_is_cut.nd rfl (Or.inl rfl) (pe_lst pa_nil))
      (pss_cons (ps_set (i := 3) sc_law_is_cut.nd rfl (Or.inl rfl) (pe_lst pa_nil))
      (pss_cons (ps_for PassesOwn.never rfl (pi_tup (pv 0)) (pg_name (i := 4) sc_law_is_cut.nd rfl (Or.inl rfl))
        (pss_cons (ps_if (PW.pt (pw_or (pt_not (pt_val (pe_callB call_isinst (by rfl) T.n_isinstance PyProof.Rows.boot_isinstance (pa_cons (pv 4) (pa_cons (pe_bltn (v := .ty "tuple") (by rfl) T.n_tuple boot_tuple rfl) pa_nil))))) (pw_or1 (pt_cmpR (op_eqT_nil hu0) (pv 4) (pe_tup pa_nil) (nomark _)))))
          (pss_one (ps_ret pe_bl)) pss_nil)
        (pss_cons (ps_for PassesOwn.never rfl (pi_tup (pv 4)) (pg_name (i := 5) sc_law_is_cut.nd rfl (Or.inl rfl))
          (pss_one (ps_if (pt_not (pt_val (pe_fn C_law_whole hr (by rfl) (pa_cons (pv 5) pa_nil))))
            (pss_one (ps_ret pe_bl)) pss_nil)))
        (pss_cons (ps_if (pt_cmpR (op_neL_same hu0) (pe_callTy call_list_of (by rfl) T.n_list boot_list (pa_cons (pv 4) pa_nil)) (pe_callB call_sortedT (by rfl) T.n_sorted boot_sorted (pa_cons (pv 4) pa_nil)) (nomark _))
          (pss_one (ps_ret pe_bl)) pss_nil)
        (pss_cons (ps_expr (pe_bm PySem.F.plainAttrs_list PySem.F.slot_list_extend PySem.F.type_list_extend mt_extendT (pv 2) (pa_cons (pv 4) pa_nil)))
        (pss_one (ps_expr (pe_bm PySem.F.plainAttrs_list PySem.F.slot_list_append PySem.F.type_list_append mt_append (pv 3) (pa_cons (pe_ix ix_tup (pv 4) pe_int (fun _ _ => rfl)) pa_nil)))))))))
      (pss_one (ps_ret (pe_and (pe_cmpR (op_eqL_same hu0) (pv 3) (pe_callB call_sortedP (by rfl) T.n_sorted boot_sorted (pa_cons (pv 3) pa_nil)) (nomark _)) (pe_one (pe_cmpR (op_eqL_same hu0) (pe_callB call_sortedP (by rfl) T.n_sorted boot_sorted (pa_cons (pv 2) pa_nil)) (pe_lrng rfl (pv 1) (by rfl) T.n_list (by rfl) T.n_range) (nomark _)))))))))), ?_⟩
    refine ⟨_, rfl, _, _, _, _, rfl, .tup hp, kit_same _ _, _, rfl, iteF ?_⟩
    refine ⟨(by show 0 ≤ sizeLine; decide), fun N gN => ?_⟩
    have s1 : Same H (upd H N (.lst [])) := (Same.refl H).new gN
    have hN1 : upd H N (.lst []) N = some (.lst []) := upd_same
    generalize upd H N (.lst []) = H1 at s1 hN1 ⊢
    refine ⟨(by show 0 ≤ sizeLine; decide), fun F gF => ?_⟩
    have hNF : N ≠ F := fun z => by rw [z] at hN1; rw [hN1] at gF; cases gF
    have gFH : H F = none := s1.free gF
    have s2 : Same H (upd H1 F (.lst [])) := s1.new gF
    refine ⟨_, rfl, p, rfl, ⟨_, SqT.of (s2 _ _ hp)⟩, for_tup (K := K) (a := p) (xs := ws) (fun i σ H2 => ∃ v4 v5 : Option V, σ = [some (.ref p), some (.int (n : Int)), some (.ref N), some (.ref F), v4, v5] ∧ Same H H2 ∧ H2 N = some (.lst (natsV ((kss.take i).flatten))) ∧ H2 F = some (.lst (natsV (heads (kss.take i)))))
      ⟨none, none, rfl, s2, upd_keep hN1 gF, upd_same⟩ (fun i σ H2 _ ⟨_, _, _, s3, _⟩ => SqT.of (s3 _ _ hp)) ?_ ?_⟩
    · rintro i y σ H2 hy ⟨v4, v5, rfl, s3, hN, hF⟩
      obtain ⟨ks, hks, t, ey, ht⟩ := Paired.get? hws hy
      subst ey
      have hi := (List.getElem?_eq_some_iff.mp hks).1
      have hmem := List.mem_of_getElem? hks
      have hne := hok.ne ks hmem
      have hkl := hok.len ks hmem
      have ht2 := s3 _ _ ht
      refine ⟨_, rfl, _, _, _, _, rfl, .tup ht2, kit_same _ _, _, rfl, iteF ?_⟩
      refine ⟨_, rfl, (by show 0 ≤ sizeLine; decide), fun e ge => ⟨t, e, _, rfl, rfl, SqT.of (upd_keep ht2 ge), SqT.of upd_same, _, rfl, ?_⟩⟩
      have hem : (natsV ks).isEmpty = false := by
        cases ks with
        | nil => exact absurd rfl hne
        | cons a r => rfl
      rw [hem]
      refine iteF ?_
      have s4 : Same H2 (upd H2 e (.tup [])) := (Same.refl H2).new ge
      generalize upd H2 e (.tup []) = H4 at s4 ⊢
      have ht4 := s4 _ _ ht2
      refine ⟨_, rfl, t, rfl, ⟨_, SqT.of ht4⟩, for_tup (K := K) (a := t) (xs := natsV ks) (fun j σ H5 => H5 = H4 ∧ ∃ v5 : Option V, σ = [some (.ref p), some (.int (n : Int)), some (.ref N), some (.ref F), some (.ref t), v5])
        ⟨rfl, _, rfl⟩ (fun j σ H5 _ ⟨e, _⟩ => by rw [e]; exact SqT.of ht4) ?_ ?_⟩
      · rintro j y σ H5 hy5 ⟨rfl, v5', rfl⟩
        obtain ⟨k, hk, rfl⟩ := natsV_get hy5
        exact ⟨_, rfl, _, rfl, _, rfl, iteF ⟨rfl, _, rfl⟩⟩
      · rintro σ H5 ⟨rfl, v5', rfl⟩
        refine ⟨_, rfl, t, _, rfl, .inr (SqT.of ht4), fun l1 g1 => ?_⟩
        have s5 : Same H5 (upd H5 l1 (.lst (natsV ks))) := (Same.refl H5).new g1
        have ht5 : upd H5 l1 (.lst (natsV ks)) t = some (.tup ((toI ks).map V.int)) := by
          rw [← natsV_int ks]
          exact s5 _ _ ht4
        refine ⟨_, rfl, t, toI ks, rfl, SqT.of ht5, by rw [toI_len]; omega, toI_up (hok.up ks hmem), fun l2 g2 => ?_⟩
        have s6 := s5.new (o := .lst ((toI ks).map V.int)) g2
        refine ⟨l1, l2, natsV ks, rfl, rfl, SqL.of (upd_keep upd_same g2), (by rw [natsV_int]; exact SqL.of upd_same), natsV_flat ks, _, rfl, iteF ?_⟩
        have hN6 := s6 _ _ (s4 _ _ hN)
        have hF6 := s6 _ _ (s4 _ _ hF)
        have ht6 := s6 _ _ ht4
        have s36 := (s3.trans s4).trans s6
        generalize upd (upd H5 l1 (.lst (natsV ks))) l2 (.lst ((toI ks).map V.int)) = H6 at hN6 hF6 ht6 s36 ⊢
        have hfl := flat_le (i := i) hok
        refine ⟨_, rfl, .inl ⟨rfl, _, SqL.of hN6⟩, _, rfl, N, t, _, _, rfl, rfl, hN6, SqT.of ht6, Nat.le_of_lt (small1000 (by rw [natsV_len, natsV_len]; omega)), ?_⟩
        have T7 : Tups H6 (upd H6 N (.lst (natsV ((kss.take i).flatten) ++ natsV ks))) := Tups.lst hN6
        have hF7 : upd H6 N (.lst (natsV ((kss.take i).flatten) ++ natsV ks)) F = some (.lst (natsV (heads (kss.take i)))) := by rw [upd_ne hNF.symm]; exact hF6
        have z0 : atI (natsV ks) 0 = some (.int ((ks.headD 0 : Nat) : Int)) := by
          cases ks with
          | nil => exact absurd rfl hne
          | cons a r => exact atI_nat (j := 0) rfl
        have hhl : (heads (kss.take i)).length ≤ 24 := by
          unfold heads
          rw [List.length_map, List.length_take]
          omega
        refine ⟨_, rfl, .inl ⟨rfl, _, SqL.of hF7⟩, _, rfl, t, _, _, _, rfl, rfl, SqT.of (T7 _ _ ht6), z0, F, _, _, rfl, rfl, hF7, small1000 (by rw [natsV_len]; omega), ?_⟩
        refine ⟨_, _, rfl, (s36.put gN).put gFH, ?_, ?_⟩
        · rw [upd_ne hNF, upd_same, take_succ_get hks, List.flatten_append]
          unfold natsV
          simp
        · rw [upd_same, take_succ_get hks]
          unfold heads
          rw [List.map_append]
          exact congrArg (fun z => some (HO.lst z)) (natsV_snoc _ _).symm
    · rintro σ H2 ⟨v4, v5, rfl, s3, hN, hF⟩
      rw [hwl, List.take_length] at hN hF
      have hF' := hF
      rw [natsV_int] at hF'
      have hhl : (heads kss).length ≤ 24 := by unfold heads; rw [List.length_map]; exact hfew
      refine ⟨_, rfl, _, rfl, F, toI (heads kss), toI (heads kss), rfl, SqL.of hF', by rw [toI_len]; omega, .refl _, toI_up hok.hd, fun l1 g1 => ?_⟩
      have s4 : Same H2 (upd H2 l1 (.lst ((toI (heads kss)).map V.int))) := (Same.refl H2).new g1
      refine ⟨F, l1, (toI (heads kss)).map V.int, rfl, rfl, SqL.of (s4 _ _ hF'), SqL.of upd_same, (by rw [← natsV_int]; exact natsV_flat _), _, rfl, iteT ?_⟩
      have hN' := s4 _ _ hN
      rw [natsV_int] at hN'
      generalize upd H2 l1 (.lst ((toI (heads kss)).map V.int)) = H4 at s4 hN' ⊢
      have hfl : kss.flatten.length = n := by rw [hok.all.length_eq, List.length_range]
      refine ⟨_, rfl, N, toI kss.flatten, toI (List.range n), rfl, SqL.of hN', by rw [toI_len]; omega, toI_perm hok.all, toI_up (List.pairwise_le_range), fun l2 g2 => ?_⟩
      refine ⟨_, rfl, n, rfl, by omega, fun l3 g3 => ?_⟩
      refine ⟨l2, l3, natsV (List.range n), rfl, rfl, (by rw [natsV_int]; exact SqL.of (upd_keep upd_same g3)), SqL.of upd_same, natsV_flat _, ?_⟩
      exact q _ (((s3.trans s4).new g2).new g3)
def spTight : Sp := fun vs H Q _ => ∃ (a : Addr) (us : List V), vs = [.ref a] ∧ H a = some (.tup us) ∧ us.length ≤ 24 ∧ ∀ (p : Addr) (ws : List V) (H' : Hp), Same H H' → H' p = some (.tup ws) → Paired (PAt H') ws ((List.range us.length).map fun k => [k]) → Q (.ref p) H'
theorem ok_tight (T : Txt K mg) : L2.Cl P w K mg base 1 "tight" ["groups"] spTight := by
  refine Cl.of T.d_tight sc_tight (fun vs H Q E h => ?_) (fun _ _ _ _ _ _ us hl => match us, hl with | [_], _ => rfl) (fun f cdv A outer s H vs Q E hr h => ?_)
  · obtain ⟨a, us, rfl, _⟩ := h
    rfl
  · obtain ⟨a, us, rfl, ha, hul, q⟩ := h
    refine ⟨_, (pss_one (ps_ret (pe_callTy call_tuple_of (by rfl) T.n_tuple boot_tuple (pa_cons (pe_comp (M := ["number"]) (ρ := [none]) (defScope s_tight) ["groups"] ⟨rfl, by decide +kernel, by decide +kernel, by decide +kernel, rfl, by decide +kernel, by decide +kernel⟩ (pi_range1 (by rfl) T.n_range (pa_cons (pe_callB call_len_seq (by rfl) T.n_len PySem.boot_len (pa_cons (pv 0) pa_nil)) pa_nil)) (fun _ _ _ _ _ _ => (pg_name (i := 0) (show (["number"] : List Str).Nodup by decide +kernel) rfl (Or.inl rfl))) (fun _ _ _ _ _ _ => pts_nil) (fun _ _ _ _ _ _ => (pe_tup (pa_cons (pv 0) pa_nil)))) pa_nil)))), ?_⟩
    refine ⟨_, rfl, a, _, rfl, .inr (SqT.of ha), _, rfl, by omega, by omega, fun D gD => ?_⟩
    rw [Int.toNat_natCast]
    refine comp_by us.length (fun i σ H2 => ∃ (v0 : Option V) (ws : List V), σ = [v0] ∧ Same H H2 ∧ H2 D = some (.lst ws) ∧ Paired (PAt H2) ws ((List.range i).map fun k => [k])) ⟨_, [], rfl, (Same.refl H).new gD, upd_same, .nil⟩ ?_ ?_
    · rintro i σ H2 hi ⟨v0, ws, rfl, s2, hD, hws⟩
      have hwl : ws.length = i := by
        have := Paired.length hws
        rw [List.length_map, List.length_range] at this
        exact this
      refine ⟨hi, ?_⟩
      rintro x H3 ⟨rfl, rfl⟩
      refine ntG ?_
      refine ⟨_, rfl, (by show 1 ≤ sizeLine; decide), fun t gt => ?_⟩
      have s3 : Same H3 (upd H3 t (.tup [.int (0 + (i : Int))])) := (Same.refl H3).new gt
      have T4 := Tups.lst (ys := ws ++ [.ref t]) (s3 _ _ hD)
      refine ⟨ws, s3 _ _ hD, small1000 (by omega), _, ws ++ [.ref t], rfl, (s2.trans s3).put gD, upd_same, ?_⟩
      rw [List.range_succ, List.map_append]
      refine Paired.snoc (Paired.mapP hws fun _ _ z => z.mono (s3.tups.trans T4)) ⟨t, rfl, T4 _ _ ?_⟩
      rw [upd_same, Int.zero_add]
      rfl
    · rintro σ H2 ⟨v0, ws, rfl, s2, hD, hws⟩
      refine ⟨Nat.le_refl _, ?_⟩
      refine ⟨D, _, rfl, .inl ⟨SqL.of hD, fun p gp => ?_⟩⟩
      have s3 : Same H2 (upd H2 p (.tup ws)) := (Same.refl H2).new gp
      exact q p ws _ (s2.trans s3) upd_same (Paired.mapP hws fun _ _ z => z.mono s3.tups)
def oneC (n : Nat) : List (List Nat) := if n = 0 then [] else [List.range n]
def spSingle : Sp := fun vs H Q _ => ∃ (a : Addr) (us : List V), vs = [.ref a] ∧ H a = some (.tup us) ∧ us.length ≤ 24 ∧ ∀ (p : Addr) (ws : List V) (H' : Hp), Same H H' → H' p = some (.tup ws) → Paired (PAt H') ws (oneC us.length) → Q (.ref p) H'
theorem ok_single (T : Txt K mg) : L2.Cl P w K mg base 1 "single" ["groups"] spSingle := by
  refine Cl.of T.d_single sc_single (fun vs H Q E h => ?_) (fun _ _ _ _ _ _ us hl => match us, hl with | [_], _ => rfl) (fun f cdv A outer s H vs Q E hr h => ?_)
  · obtain ⟨a, us, rfl, _⟩ := h
    rfl
  · obtain ⟨a, us, rfl, ha, hul, q⟩ := h
    refine ⟨_, (pss_cons (ps_if (pt_not (pt_truth (pv 0) (fun _ => rfl)))
        (pss_one (ps_ret (pe_tup pa_nil))) pss_nil)
      (pss_one (ps_ret (pe_tup (pa_cons (pe_trng rfl (pe_callB call_len_seq (by rfl) T.n_len PySem.boot_len (pa_cons (pv 0) pa_nil)) (by rfl) T.n_tuple (by rfl) T.n_range) pa_nil))))), ?_⟩
    refine ⟨_, rfl, _, .inr (.inl ⟨_, SqT.of ha, rfl⟩), ?_⟩
    cases us with
    | nil =>
      refine iteT ?_
      refine ⟨(by show 0 ≤ sizeLine; decide), fun p gp => ?_⟩
      exact q p [] _ ((Same.refl H).new gp) upd_same .nil
    | cons b r =>
      refine iteF ?_
      refine ⟨_, rfl, a, _, rfl, .inr (SqT.of ha), (b :: r).length, rfl, by omega, fun t gt => ⟨by show 1 ≤ sizeLine; decide, fun p gp => ?_⟩⟩
      have s1 := ((Same.refl H).new (o := .tup (rngV (b :: r).length)) gt).new (o := .tup [.ref t]) gp
      refine q p [.ref t] _ s1 upd_same ?_
      have e : oneC (b :: r).length = [List.range (b :: r).length] := by unfold oneC; rw [if_neg (by simp)]
      rw [e]
      exact .cons ⟨t, rfl, upd_keep upd_same gp⟩ .nil
theorem ok_initT {A : Adr} (hX : XTxt K mg A) : XCl P w K mg base 1 A.TooMany "parts" ["self", "parts"] := by
  refine XCl.of hX.x_TooMany sc_TooMany___init__ rfl (fun _ _ _ _ _ _ us hl => match us, hl with | [_, _], _ => rfl) (fun f' cdv A0 outer s H vs Q E xi hr h => ?_)
  obtain ⟨e, v, rfl, he, q⟩ := h
  refine ⟨_, (pss_cons (ps_initB (by rfl) hX.m_BundleError hX.b_BundleError (pa_cons (pv 0) (pa_cons (pv 1) pa_nil)))
      (pss_one (ps_fldX (pv 0) (pv 1) rfl))), ?_⟩
  exact ⟨_, rfl, _, rfl, e, A.TooMany, f', v, rfl, he, xi, _, rfl, _, rfl, e, A.TooMany, rfl, he, hX.k_TooMany, hX.f_TooMany, fun dx hdx => q dx hdx⟩
def cols (gs : List Gp) : List V := gs.map fun g => V.int (g.1 : Int)
theorem cols_snoc {gs : List Gp} {i : Nat} {g : Gp} (h : gs[i]? = some g) : cols (gs.take (i + 1)) = cols (gs.take i) ++ [.int (g.1 : Int)] := by unfold cols; rw [take_succ_get h, List.map_append]; rfl
theorem cols_len (gs : List Gp) : (cols gs).length = gs.length := by unfold cols; rw [List.length_map]
def spBestX (A : Adr) : Sp := fun vs H Q E => ∃ (a : Addr) (us : List V) (gs : List Gp) (t : Int), vs = [.ref a, .int t] ∧ H a = some (.tup us) ∧ Paired (GAt H) us gs ∧ 8 < gs.length ∧ gs.length ≤ 24 ∧
  ∀ (p dx : Addr) (H' : Hp), Same H H' → H' p = some (.tup (cols gs)) → H' dx = some (.xd [("parts", .ref p)]) → E (.ref A.TooMany) (some dx) H'
theorem ok_bestX (T : Txt K mg) {A : Adr} (hX : XTxt K mg A) : L2.ClE P w K mg base 3 "best_packs" ["groups", "toll"] (spBestX A) := by
  have X_TooMany := ok_initT (P := P) (w := w) (base := base) hX
  refine ClE.of T.d_best_packs sc_best_packs (fun vs H Q E h => ?_) (fun _ _ _ _ _ _ us hl => match us, hl with | [_, _], _ => rfl) (fun f cdv A0 outer s H vs Q E hr h => ?_)
  · obtain ⟨a, us, gs, t, rfl, _⟩ := h
    rfl
  · obtain ⟨a, us, gs, t, rfl, ha, hus, h8, h24, q⟩ := h
    have hul : us.length = gs.length := Paired.length hus
    refine ⟨_, (pss_cons (ps_if (pt_cmpR op_gt (pe_callB call_len_seq (by rfl) T.n_len PySem.boot_len (pa_cons (pv 0) pa_nil)) (pe_globS T.g_MOST_GROUPS (by rfl)) (nomark _))
        (pss_one (ps_raise1 X_TooMany hr (by rfl) hX.m_TooMany hX.k_TooMany (pa_cons (pe_callTy call_tuple_of (by rfl) T.n_tuple boot_tuple (pa_cons (pe_comp (M := ["colour", "names", "size"]) (ρ := [none, none, none]) (defScope s_best_packs) ["groups", "toll", "prices", "best", "place"] ⟨rfl, by decide +kernel, by decide +kernel, by decide +kernel, rfl, by decide +kernel, by decide +kernel⟩ (pi_tup (pv 0)) (fun _ _ _ _ _ _ => (pg_tupK (K := K) (n := 3) rfl rfl (pgs_cons (pg_name (i := 0) (show (["colour", "names", "size"] : List Str).Nodup by decide +kernel) rfl (Or.inl rfl)) (pgs_cons (pg_name (i := 1) (show (["colour", "names", "size"] : List Str).Nodup by decide +kernel) rfl (Or.inl rfl)) (pgs_cons (pg_name (i := 2) (show (["colour", "names", "size"] : List Str).Nodup by decide +kernel) rfl (Or.inl rfl)) pgs_nil))))) (fun _ _ _ _ _ _ => pts_nil) (fun _ _ _ _ _ _ => (pv 0))) pa_nil)) pa_nil))) pss_nil)
      pss_never), ?_⟩
    refine ⟨_, rfl, a, _, rfl, .inr (SqT.of ha), _, _, rfl, rfl, _, rfl, ?_⟩
    refine iteDP (by show (us.length : Int) > 8; omega) ?_
    refine ⟨_, rfl, a, rfl, ⟨_, SqT.of ha⟩, fun D gD => ?_⟩
    refine comp_by us.length (fun i σ H2 => ∃ v0 v1 v2 : Option V, σ = [v0, v1, v2] ∧ Same H H2 ∧ H2 D = some (.lst (cols (gs.take i)))) ⟨_, _, _, rfl, (Same.refl H).new gD, upd_same⟩ ?_ ?_
    · rintro i σ H2 hi ⟨v0, v1, v2, rfl, s2, hD2⟩
      refine ⟨⟨us, us[i], SqT.of (s2 _ _ ha), by simp⟩, ?_⟩
      rintro x H3 ⟨rfl, hx⟩
      obtain ⟨g, hg, tt, u, ex, htt⟩ := Paired.get? hus (hx _ (SqT.of (s2 _ _ ha)))
      subst ex
      refine ⟨tt, _, rfl, SqT.of (s2 _ _ htt), rfl, _, _, rfl, _, _, rfl, _, _, rfl, rfl, ?_⟩
      refine nt ?_
      refine ⟨_, rfl, _, hD2, small1000 (by rw [cols_len, List.length_take]; omega), _, _, _, rfl, s2.put gD, ?_⟩
      rw [upd_same, cols_snoc hg]
    · rintro σ H2 ⟨v0, v1, v2, rfl, s2, hD2⟩
      refine ⟨⟨us, SqT.of (s2 _ _ ha), Nat.le_refl _⟩, ?_⟩
      rw [hul, List.take_length] at hD2
      refine ⟨D, _, rfl, .inl ⟨SqL.of hD2, fun p gp => ⟨_, rfl, fun dx gdx => ?_⟩⟩⟩
      exact q p dx _ ((s2.new gp).new gdx) (upd_keep upd_same gdx) upd_same
theorem ok_tableX (T : Txt K mg) {A : Adr} (hX : XTxt K mg A) : L2.ClE P w K mg base 4 "table" ["groups", "toll"] (spBestX A) := by
  have C_best_packs := ok_bestX (P := P) (w := w) (base := base) T hX
  refine ClE.of T.d_table sc_table (fun vs H Q E h => ?_) (fun _ _ _ _ _ _ us hl => match us, hl with | [_, _], _ => rfl) (fun f cdv A0 outer s H vs Q E hr h => ?_)
  · obtain ⟨a, us, gs, t, rfl, _⟩ := h
    rfl
  · obtain ⟨a, us, gs, t, rfl, ha, hus, h8, h24, q⟩ := h
    refine ⟨_, (pss_one (ps_ret (pe_callTy call_tuple_of (by rfl) T.n_tuple boot_tuple (pa_cons (pe_comp (M := ["least", "pack"]) (ρ := [none, none]) (defScope s_table) ["groups", "toll"] ⟨rfl, by decide +kernel, by decide +kernel, by decide +kernel, rfl, by decide +kernel, by decide +kernel⟩ (pi_list (pe_fnE C_best_packs passE hr (by rfl) (pa_cons (pv 0) (pa_cons (pv 1) pa_nil)))) (fun _ _ _ _ _ _ => (pg_tupK (K := K) (n := 2) rfl rfl (pgs_cons (pg_name (i := 0) (show (["least", "pack"] : List Str).Nodup by decide +kernel) rfl (Or.inl rfl)) (pgs_cons (pg_name (i := 1) (show (["least", "pack"] : List Str).Nodup by decide +kernel) rfl (Or.inl rfl)) pgs_nil)))) (fun _ _ _ _ _ _ => pts_nil) (fun _ _ _ _ _ _ => (pv 0))) pa_nil)))), ?_⟩
    exact ⟨_, rfl, _, rfl, a, us, gs, t, rfl, ha, hus, h8, h24, q⟩
def spRefused : Sp := fun vs H Q _ => ∃ (a : Addr) (us : List V) (gs : List Gp) (t : Int), vs = [.ref a, .int t] ∧ H a = some (.tup us) ∧ Paired (GAt H) us gs ∧ 8 < gs.length ∧ gs.length ≤ 24 ∧
  ∀ (p : Addr) (H' : Hp), Same H H' → H' p = some (.tup (cols gs)) → Q (.ref p) H'
theorem ok_refused (T : Txt K mg) {A : Adr} (hX : XTxt K mg A) : L2.Cl P w K mg base 5 "_law_refused" ["_law_told", "_law_toll_here"] spRefused := by
  have C_table := ok_tableX (P := P) (w := w) (base := base) T hX
  refine Cl.of T.d_law_refused sc_law_refused (fun vs H Q E h => ?_) (fun _ _ _ _ _ _ us hl => match us, hl with | [_, _], _ => rfl) (fun f cdv A0 outer s H vs Q E hr h => ?_)
  · obtain ⟨a, us, gs, t, rfl, _⟩ := h
    rfl
  · obtain ⟨a, us, gs, t, rfl, ha, hus, h8, h24, q⟩ := h
    refine ⟨_, (pss_cons (ps_set (i := 2) sc_law_refused.nd rfl (Or.inl rfl) pe_non)
      (pss_cons (ps_tryAs (i := 3) sc_law_refused.nd rfl rfl (by rfl) hX.m_BundleError hX.k_BundleError (tb_expr C_table hr (by rfl) (pa_cons (pv 0) (pa_cons (pv 1) pa_nil)))
        (fun a => (pss_one (ps_set (i := 2) sc_law_refused.nd rfl (Or.inl rfl) (pv 3)))))
      (pss_cons (ps_if (PW.pt (pw_or (pt_not (pt_val (pe_callB call_isinstE (by rfl) T.n_isinstance PyProof.Rows.boot_isinstance (pa_cons (pv 2) (pa_cons (pe_bltn (v := .ty "ValueError") (by rfl) T.n_ValueError boot_ValueError rfl) pa_nil))))) (pw_or1 (pt_not (pt_val (pe_callB call_isinstE (by rfl) T.n_isinstance PyProof.Rows.boot_isinstance (pa_cons (pv 2) (pa_cons (pe_glob (v := .ref A.TooMany) (by rfl) hX.m_TooMany rfl) pa_nil))))))))
        (pss_one (ps_ret pe_non)) pss_nil)
      (pss_cons (ps_if (pt_val (pe_callB call_isinstE (by rfl) T.n_isinstance PyProof.Rows.boot_isinstance (pa_cons (pv 2) (pa_cons (pe_tup (pa_cons (pe_glob (v := .ref A.Asks) (by rfl) hX.m_Asks rfl) (pa_cons (pe_glob (v := .ref A.Endless) (by rfl) hX.m_Endless rfl) (pa_cons (pe_glob (v := .ref A.NoMap) (by rfl) hX.m_NoMap rfl) (pa_cons (pe_glob (v := .ref A.NoName) (by rfl) hX.m_NoName rfl) (pa_cons (pe_glob (v := .ref A.NoPart) (by rfl) hX.m_NoPart rfl) (pa_cons (pe_glob (v := .ref A.NoPlace) (by rfl) hX.m_NoPlace rfl) (pa_cons (pe_glob (v := .ref A.NoRow) (by rfl) hX.m_NoRow rfl) (pa_cons (pe_glob (v := .ref A.NotGiven) (by rfl) hX.m_NotGiven rfl) (pa_cons (pe_glob (v := .ref A.Twice) (by rfl) hX.m_Twice rfl) pa_nil)))))))))) pa_nil))))
        (pss_one (ps_ret pe_non)) pss_nil)
      (pss_one (ps_ret (pe_fldX (pv 2) rfl))))))), ?_⟩
    refine ⟨_, rfl, _, rfl, a, us, gs, t, rfl, ha, hus, h8, h24, fun p dx H1 s1 hp hdx => ⟨A.TooMany, rfl, hX.s_TooMany, fun e ne => ⟨_, rfl, ?_⟩⟩⟩
    have s2 : Same H1 (upd H1 e (ExO e A.TooMany (some dx))) := (Same.refl H1).new ne
    have he : upd H1 e (ExO e A.TooMany (some dx)) e = some (ExO e A.TooMany (some dx)) := upd_same
    have hp2 := s2 _ _ hp
    have hdx2 := s2 _ _ hdx
    refine ⟨_, rfl, e, A.TooMany, some dx, _, true, rfl, he, ⟨_, hdx2⟩, hX.k_TooMany, .ty hX.i_val, _, rfl, iteF ?_⟩
    refine ⟨_, rfl, e, A.TooMany, some dx, _, true, rfl, he, ⟨_, hdx2⟩, hX.k_TooMany, .one hX.i_self, _, rfl, iteF ?_⟩
    refine ⟨_, rfl, (by show 9 ≤ sizeLine; decide), fun tp gtp => ⟨e, A.TooMany, some dx, _, false, rfl, upd_keep he gtp, ⟨_, upd_keep hdx2 gtp⟩, hX.k_TooMany, .tup (Bs := [A.Asks, A.Endless, A.NoMap, A.NoName, A.NoPart, A.NoPlace, A.NoRow, A.NotGiven, A.Twice]) upd_same hX.i_oth, _, rfl, iteF ?_⟩⟩
    exact ⟨_, rfl, e, A.TooMany, dx, _, _, rfl, upd_keep he gtp, upd_keep hdx2 gtp, hX.k_TooMany, hX.f_TooMany, rfl, q p _ ((s1.trans s2).new gtp) (upd_keep hp2 gtp)⟩
def tightC (n : Nat) : List (List Nat) := (List.range n).map fun k => [k]
def dueC (gs : List Gp) (t : Int) : List (List Nat) := if totP gs t (tightC gs.length) ≤ totP gs t (oneC gs.length) then tightC gs.length else oneC gs.length
theorem tight_lt {n : Nat} : ∀ ks ∈ tightC n, ∀ k ∈ ks, k < n := fun ks hks k hk => by
  obtain ⟨j, hj, rfl⟩ := List.mem_map.mp hks
  rw [List.mem_singleton.mp hk]
  exact List.mem_range.mp hj
theorem tight_len (n : Nat) : (tightC n).length = n := by unfold tightC; rw [List.length_map, List.length_range]
theorem one_lt {n : Nat} : ∀ ks ∈ oneC n, ∀ k ∈ ks, k < n := fun ks hks k hk => by
  unfold oneC at hks
  split at hks
  · cases hks
  · rw [List.mem_singleton.mp hks] at hk
    exact List.mem_range.mp hk
theorem one_len (n : Nat) : (oneC n).length ≤ 1 := by unfold oneC; split <;> simp
theorem flat_tight : ∀ l : List Nat, (l.map fun k => [k]).flatten = l
  | [] => rfl
  | a :: r => by rw [List.map_cons, List.flatten_cons, flat_tight r]; rfl
theorem range_up (n : Nat) : (List.range n).Pairwise (· ≤ ·) := (List.pairwise_lt_range (n := n)).imp Nat.le_of_lt
theorem tight_cut {n : Nat} (h : n ≤ 24) : CutP (tightC n) n where
  ne := fun ks hks => by obtain ⟨j, _, rfl⟩ := List.mem_map.mp hks; simp
  up := fun ks hks => by obtain ⟨j, _, rfl⟩ := List.mem_map.mp hks; simp
  len := fun ks hks => by obtain ⟨j, _, rfl⟩ := List.mem_map.mp hks; simp
  hd := by
    have e : heads (tightC n) = List.range n := by
      unfold heads tightC
      rw [List.map_map]
      exact List.map_id _
    rw [e]
    exact range_up n
  all := by unfold tightC; rw [flat_tight]
  few := by rw [tight_len]; exact h
theorem one_cut {n : Nat} (h0 : 0 < n) (h : n ≤ 24) : CutP (oneC n) n := by
  have e : oneC n = [List.range n] := by unfold oneC; rw [if_neg (by omega)]
  rw [e]
  refine ⟨fun ks hks => ?_, fun ks hks => ?_, fun ks hks => ?_, by simp [heads], by simp, by simp⟩
  · rw [List.mem_singleton.mp hks]
    intro z
    have := congrArg List.length z
    simp at this
    omega
  · rw [List.mem_singleton.mp hks]
    exact range_up n
  · rw [List.mem_singleton.mp hks, List.length_range]
    exact h
theorem due_cut {gs : List Gp} {t : Int} (h0 : 0 < gs.length) (h : gs.length ≤ 24) : CutP (dueC gs t) gs.length := by
  unfold dueC
  split
  · exact tight_cut h
  · exact one_cut h0 h
def spCheapM : Sp := fun vs H Q _ => ∃ (a : Addr) (us : List V) (gs : List Gp) (t : Int), vs = [.ref a, .int t] ∧ H a = some (.tup us) ∧ Paired (GAt H) us gs ∧ GsOk gs ∧ 8 < gs.length ∧ gs.length ≤ 24 ∧
  ∀ (p : Addr) (ws : List V) (H' : Hp), Same H H' → H' p = some (.tup ws) → Paired (PAt H') ws (dueC gs t) → Q (.ref p) H'
theorem ok_cheapM (T : Txt K mg) : L2.Cl P w K mg base 4 "cheapest" ["groups", "toll"] spCheapM := by
  have C_tight := ok_tight (P := P) (w := w) (base := base) T
  have C_single := ok_single (P := P) (w := w) (base := base) T
  have C_price := ok_price (P := P) (w := w) (base := base) T
  refine Cl.of T.d_cheapest sc_cheapest (fun vs H Q E h => ?_) (fun _ _ _ _ _ _ us hl => match us, hl with | [_, _], _ => rfl) (fun f cdv A0 outer s H vs Q E hr h => ?_)
  · obtain ⟨a, us, gs, t, rfl, _⟩ := h
    rfl
  · obtain ⟨a, us, gs, t, rfl, ha, hus, hok, h8, h24, q⟩ := h
    have hul : us.length = gs.length := Paired.length hus
    refine ⟨_, (pss_cons (ps_if (pt_cmpR op_le (pe_callB call_len_seq (by rfl) T.n_len PySem.boot_len (pa_cons (pv 0) pa_nil)) (pe_globS T.g_MOST_GROUPS (by rfl)) (nomark _))
        pss_never pss_nil)
      (pss_cons (ps_set (i := 2) sc_cheapest.nd rfl (Or.inl rfl) (pe_fn C_tight hr (by rfl) (pa_cons (pv 0) pa_nil)))
      (pss_cons (ps_set (i := 3) sc_cheapest.nd rfl (Or.inl rfl) (pe_fn C_single hr (by rfl) (pa_cons (pv 0) pa_nil)))
      (pss_cons (ps_if (pt_cmpR op_le (pe_fn C_price hr (by rfl) (pa_cons (pv 0) (pa_cons (pv 1) (pa_cons (pv 2) pa_nil)))) (pe_fn C_price hr (by rfl) (pa_cons (pv 0) (pa_cons (pv 1) (pa_cons (pv 3) pa_nil)))) (nomark _))
        (pss_one (ps_ret (pv 2))) pss_nil)
      (pss_one (ps_ret (pv 3))))))), ?_⟩
    refine ⟨_, rfl, a, _, rfl, .inr (SqT.of ha), _, _, rfl, rfl, _, rfl, ?_⟩
    refine iteDN (by show ¬ (us.length : Int) ≤ 8; omega) ?_
    refine ⟨_, rfl, a, us, rfl, ha, by omega, fun p1 ws1 H1 s1 hp1 hws1 => ?_⟩
    refine ⟨_, rfl, a, us, rfl, s1 _ _ ha, by omega, fun p2 ws2 H2 s2 hp2 hws2 => ?_⟩
    have s12 := s1.trans s2
    have ha2 := s12 _ _ ha
    have hus2 : Paired (GAt H2) us gs := Paired.mapP hus fun _ _ z => z.mono s12.tups
    have hw1 : Paired (PAt H2) ws1 (tightC gs.length) := by rw [← hul]; exact Paired.mapP hws1 fun _ _ z => z.mono s2.tups
    rw [hul] at hws2
    refine ⟨_, rfl, _, rfl, _, rfl, a, p1, us, gs, t, tightC gs.length, rfl, ha2, hus2, hok, ⟨ws1, s2 _ _ hp1, hw1, tight_lt, by rw [tight_len]; exact h24⟩, fun H3 s3 => ?_⟩
    have ha3 := s3 _ _ ha2
    refine ⟨_, rfl, _, rfl, _, rfl, a, p2, us, gs, t, oneC gs.length, rfl, ha3, Paired.mapP hus2 fun _ _ z => z.mono s3.tups, hok, ⟨ws2, s3 _ _ hp2, Paired.mapP hws2 fun _ _ z => z.mono s3.tups, one_lt, by have := one_len gs.length; omega⟩, fun H4 s4 => ⟨_, _, rfl, rfl, _, rfl, ?_⟩⟩
    have s34 := s3.trans s4
    by_cases e : totP gs t (tightC gs.length) ≤ totP gs t (oneC gs.length)
    · refine iteDP e ⟨_, rfl, q p1 ws1 H4 (s12.trans s34) (s34 _ _ (s2 _ _ hp1)) ?_⟩
      unfold dueC
      rw [if_pos e]
      exact Paired.mapP hw1 fun _ _ z => z.mono s34.tups
    · refine iteDN e ⟨_, rfl, q p2 ws2 H4 (s12.trans s34) (s34 _ _ hp2) ?_⟩
      unfold dueC
      rw [if_neg e]
      exact Paired.mapP hws2 fun _ _ z => z.mono s34.tups
theorem ones_24 {c : Nat} (h : c < 2 ^ 24) : onesN c ≤ 24 := by
  have h1 := count_bits 24 c h
  have h2 := List.length_filter_le (fun j => c.testBit j) (List.range 24)
  rw [List.length_range] at h2
  omega
def Told (H : Hp) (v : V) (n : Nat) : Prop := ∃ a us gs, v = .ref a ∧ H a = some (.tup us) ∧ Paired (GAt H) us gs ∧ GsOk gs ∧ gs.length = n
theorem Told.same {H H' : Hp} (s : Same H H') {v : V} {n : Nat} (h : Told H v n) : Told H' v n := by
  obtain ⟨a, us, gs, h1, h2, h3, h4, h5⟩ := h
  exact ⟨a, us, gs, h1, s _ _ h2, Paired.mapP h3 fun _ _ z => z.mono s.tups, h4, h5⟩
def spEven : Sp := fun vs H Q _ => ∃ (v : V) (n : Nat) (c : Int), vs = [v, .int c] ∧ Told H v n ∧ n ≤ 24 ∧ -1 ≤ c ∧ c < 3 ∧
  ∀ (r : Addr) (v' : V) (t' : Int) (H' : Hp), Same H H' → H' r = some (.tup [v', .int t']) → Told H' v' n → Q (.ref r) H'
theorem or_lt {a b : Nat} (h1 : a < 2 ^ 24) (h2 : b < 2 ^ 24) : a ||| b < 2 ^ 24 := Nat.or_lt_two_pow h1 h2
theorem ok_even (T : Txt K mg) : L2.Cl P w K mg base 2 "_law_even" ["_law_told", "_law_way"] spEven := by
  have C_law_ones := ok_ones (P := P) (w := w) (base := base) T
  refine Cl.of T.d_law_even sc_law_even (fun vs H Q E h => ?_) (fun _ _ _ _ _ _ us hl => match us, hl with | [_, _], _ => rfl) (fun f cdv A0 outer s H vs Q E hr h => ?_)
  · obtain ⟨v, n, c, rfl, _⟩ := h
    rfl
  · obtain ⟨v, n, c, rfl, ⟨a, us, gs, rfl, ha, hus, hok, hn⟩, h24, c0, c3, q⟩ := h
    have hul : us.length = gs.length := Paired.length hus
    refine ⟨_, (pss_cons (ps_set (i := 2) sc_law_even.nd rfl (Or.inl rfl) pe_int)
      (pss_cons (ps_set (i := 3) sc_law_even.nd rfl (Or.inl rfl) pe_int)
      (pss_cons (ps_set (i := 4) sc_law_even.nd rfl (Or.inl rfl) pe_int)
      (pss_cons (ps_set (i := 5) sc_law_even.nd rfl (Or.inl rfl) pe_int)
      (pss_cons (ps_for PassesOwn.never rfl (pi_tup (pv 0)) (pg_tup rfl (pgs_cons (pg_name (i := 6) sc_law_even.nd rfl (Or.inl rfl)) (pgs_cons (pg_name (i := 7) sc_law_even.nd rfl (Or.inl rfl)) (pgs_cons (pg_name (i := 8) sc_law_even.nd rfl (Or.inl rfl)) pgs_nil))))
        (pss_cons (ps_set (i := 2) sc_law_even.nd rfl (Or.inl rfl) (pe_op op_or (pv 2) (pv 6)))
        (pss_cons (ps_set (i := 3) sc_law_even.nd rfl (Or.inl rfl) (pe_op op_add (pv 3) (pe_fn C_law_ones hr (by rfl) (pa_cons (pv 6) pa_nil))))
        (pss_cons (ps_set (i := 4) sc_law_even.nd rfl (Or.inl rfl) (pe_op op_add (pv 4) (pv 8)))
        (pss_one (ps_set (i := 5) sc_law_even.nd rfl (Or.inl rfl) (pe_op op_add (pv 5) (pe_op op_mul (pe_fn C_law_ones hr (by rfl) (pa_cons (pv 6) pa_nil)) (pv 8)))))))))
      (pss_cons (ps_set (i := 9) sc_law_even.nd rfl (Or.inr rfl) (pe_op op_sub (pv 3) (pe_fn C_law_ones hr (by rfl) (pa_cons (pv 2) pa_nil))))
      (pss_cons (ps_if (pt_cmpR op_eq (pv 9) pe_int (nomark _))
        (pss_one (ps_ret (pe_tup (pa_cons (pv 0) (pa_cons pe_int pa_nil))))) pss_nil)
      (pss_cons (ps_set (i := 10) sc_law_even.nd rfl (Or.inl rfl) (pe_callTy call_tuple_of (by rfl) T.n_tuple boot_tuple (pa_cons (pe_comp (M := ["_law_shade", "_law_names", "_law_size", "_law_times"]) (ρ := [none, none, none, some 9]) (defScope s_law_even) ["_law_told", "_law_way", "_law_shades", "_law_bits", "_law_sizes", "_law_loads", "_law_shade", "_law_names", "_law_size", "_law_times", "_law_even_here"] ⟨rfl, by decide +kernel, by decide +kernel, by decide +kernel, rfl, by decide +kernel, by decide +kernel⟩ (pi_tup (pv 0)) (fun _ _ _ _ _ _ => (pg_tupK (K := K) (n := 3) rfl rfl (pgs_cons (pg_name (i := 0) (show (["_law_shade", "_law_names", "_law_size", "_law_times"] : List Str).Nodup by decide +kernel) rfl (Or.inl rfl)) (pgs_cons (pg_name (i := 1) (show (["_law_shade", "_law_names", "_law_size", "_law_times"] : List Str).Nodup by decide +kernel) rfl (Or.inl rfl)) (pgs_cons (pg_name (i := 2) (show (["_law_shade", "_law_names", "_law_size", "_law_times"] : List Str).Nodup by decide +kernel) rfl (Or.inl rfl)) pgs_nil))))) (fun _ _ _ _ _ _ => pts_nil) (fun _ _ _ _ _ _ => (pe_tup (pa_cons (pv 0) (pa_cons (pv 1) (pa_cons (pe_op op_mul (pv 2) (pv 3)) pa_nil)))))) pa_nil)))
      (pss_one (ps_ret (pe_tup (pa_cons (pv 10) (pa_cons (pe_callB (call_max2 rfl) (by rfl) T.n_max boot_max (pa_cons pe_int (pa_cons (pe_op op_add (pe_op op_sub (pe_op op_mul (pe_fn C_law_ones hr (by rfl) (pa_cons (pv 2) pa_nil)) (pv 4)) (pv 5)) (pe_ix ix_list (pe_lst (pa_cons pe_int (pa_cons pe_int (pa_cons (pe_un un_neg pe_int) pa_nil)))) (pv 1) (fun _ _ => rfl))) pa_nil))) pa_nil))))))))))))), ?_⟩
    refine ⟨_, rfl, a, rfl, ⟨_, SqT.of ha⟩, ?_⟩
    refine for_tup (K := K) (a := a) (xs := us) (fun i σ H2 => H2 = H ∧ ∃ (sh : Nat) (bi si lo : Int), ∃ v6 v7 v8 v9 v10 : Option V, σ = [some (.ref a), some (.int c), some (.int (sh : Int)), some (.int bi), some (.int si), some (.int lo), v6, v7, v8, v9, v10] ∧ sh < 2 ^ 24 ∧ 0 ≤ bi ∧ bi ≤ 24 * (i : Int)) ⟨rfl, 0, 0, 0, 0, _, _, _, _, _, rfl, by decide, by decide, by decide⟩ (fun i σ H2 _ ⟨e, _⟩ => by rw [e]; exact SqT.of ha) ?_ ?_
    · rintro i x σ H2 hx ⟨rfl, sh, bi, si, lo, v6, v7, v8, v9, v10, rfl, hsh, hb0, hb1⟩
      obtain ⟨g, hg, tt, u, ex, htt⟩ := Paired.get? hus hx
      subst ex
      have hg1 := hok.lt g (List.mem_of_getElem? hg)
      have ho := ones_24 hg1
      refine ⟨tt, _, rfl, SqT.of htt, rfl, _, _, rfl, _, _, rfl, _, _, rfl, rfl, ?_⟩
      refine ⟨_, rfl, _, rfl, _, _, rfl, rfl, ?_⟩
      refine ⟨_, rfl, _, rfl, g.1, rfl, _, _, rfl, rfl, ?_⟩
      refine ⟨_, rfl, _, rfl, _, _, rfl, rfl, ?_⟩
      refine ⟨_, rfl, _, rfl, g.1, rfl, _, rfl, _, _, rfl, rfl, .inl ⟨by omega, by omega⟩, _, _, rfl, rfl, ?_⟩
      refine ⟨rfl, sh ||| g.1, bi + (onesN g.1 : Int), si + g.2, lo + (onesN g.1 : Int) * g.2, some (.int (g.1 : Int)), some u, some (.int g.2), v9, v10, (by rw [← bitOr_nat]; rfl), or_lt hsh hg1, by omega, by omega⟩
    · rintro σ H2 ⟨rfl, sh, bi, si, lo, v6, v7, v8, v9, v10, rfl, hsh, hb0, hb1⟩
      have ho := ones_24 hsh
      refine ⟨_, rfl, _, rfl, sh, rfl, _, _, rfl, rfl, ?_⟩
      refine ⟨_, rfl, rfl, _, rfl, ?_⟩
      refine ite2I (fun _ => ?_) fun _ => ?_
      · refine ⟨_, rfl, (by show 2 ≤ sizeLine; decide), fun r gr => ?_⟩
        exact q r (.ref a) 7 _ ((Same.refl _).new gr) upd_same (Told.same ((Same.refl _).new gr) ⟨a, us, gs, rfl, ha, hus, hok, hn⟩)
      · refine ⟨_, rfl, a, rfl, ⟨_, SqT.of ha⟩, fun D gD => ?_⟩
        refine comp_by us.length (fun i σ H3 => ∃ v0 v1 v2 : Option V, σ = [v0, v1, v2, some (.int (bi - (onesN sh : Int)))] ∧ Same H2 H3 ∧ ∃ L, H3 D = some (.lst L) ∧ Paired (GAt H3) L ((gs.take i).map fun g => (g.1, g.2 * (bi - (onesN sh : Int))))) ⟨_, _, _, rfl, (Same.refl _).new gD, [], upd_same, .nil⟩ ?_ ?_
        · rintro i σ H3 hi ⟨v0, v1, v2, rfl, s3, L, hD3, hL⟩
          refine ⟨⟨us, us[i], SqT.of (s3 _ _ ha), by simp⟩, ?_⟩
          rintro x H4 ⟨rfl, hx⟩
          obtain ⟨g, hg, tt, u, ex, htt⟩ := Paired.get? hus (hx _ (SqT.of (s3 _ _ ha)))
          subst ex
          have hLl : L.length = i := by
            have e1 : L.length = _ := Paired.length hL
            rw [List.length_map, List.length_take] at e1
            omega
          refine ⟨tt, _, rfl, SqT.of (s3 _ _ htt), rfl, _, _, rfl, _, _, rfl, _, _, rfl, rfl, ?_⟩
          refine nt ?_
          refine ⟨_, rfl, _, rfl, _, rfl, _, rfl, _, _, rfl, rfl, .inr ⟨by omega, by omega⟩, (by show 3 ≤ sizeLine; decide), fun tn gn => ?_⟩
          have s4 : Same H4 (upd H4 tn (.tup [.int (g.1 : Int), u, .int (g.2 * (bi - (onesN sh : Int)))])) := (Same.refl _).new gn
          have t4 := Tups.lst (ys := L ++ [.ref tn]) (s4 _ _ hD3)
          refine ⟨L, s4 _ _ hD3, small1000 (by omega), _, _, _, rfl, (s3.trans s4).put gD, _, upd_same, ?_⟩
          rw [take_succ_get hg, List.map_append]
          exact Paired.snoc (Paired.mapP hL fun _ _ z => z.mono (s4.tups.trans t4)) ⟨tn, u, rfl, t4 _ _ upd_same⟩
        · rintro σ H3 ⟨v0, v1, v2, rfl, s3, L, hD3, hL⟩
          refine ⟨⟨us, SqT.of (s3 _ _ ha), Nat.le_refl _⟩, ?_⟩
          rw [hul, List.take_length] at hL
          refine ⟨D, _, rfl, .inl ⟨SqL.of hD3, fun p gp => ?_⟩⟩
          have s4 : Same H3 (upd H3 p (.tup L)) := (Same.refl _).new gp
          have hL4 : Paired (GAt (upd H3 p (.tup L))) L (gs.map fun g => (g.1, g.2 * (bi - (onesN sh : Int)))) := Paired.mapP hL fun _ _ z => z.mono s4.tups
          have hp4 : upd H3 p (.tup L) p = some (.tup L) := upd_same
          generalize upd H3 p (.tup L) = H4 at s4 hL4 hp4 ⊢
          have told : Told H4 (.ref p) n := ⟨p, L, _, rfl, hp4, hL4, ⟨fun g hg => by
            obtain ⟨g0, h0, rfl⟩ := List.mem_map.mp hg
            exact hok.lt g0 h0⟩, by rw [List.length_map]; exact hn⟩
          refine ⟨_, rfl, _, rfl, sh, rfl, _, rfl, _, _, rfl, rfl, .inl ⟨by omega, by omega⟩, _, rfl, _, _, rfl, rfl, ?_⟩
          refine ⟨_, rfl, (by show 3 ≤ sizeLine; decide), fun l gl => ?_⟩
          obtain ⟨w, hw⟩ : ∃ w : Int, atI [V.int 0, V.int 1, V.int (-1)] c = some (.int w) := by
            rcases (show c = -1 ∨ c = 0 ∨ c = 1 ∨ c = 2 by omega) with e | e | e | e
            · exact ⟨-1, by rw [e]; rfl⟩
            · exact ⟨0, by rw [e]; rfl⟩
            · exact ⟨1, by rw [e]; rfl⟩
            · exact ⟨-1, by rw [e]; rfl⟩
          refine ⟨_, rfl, l, _, _, _, rfl, rfl, SqL.of upd_same, hw, _, _, rfl, rfl, _, _, rfl, (by show 2 ≤ sizeLine; decide), fun r gr => ?_⟩
          have s5 := (Same.refl H4).new (o := .lst [V.int 0, V.int 1, V.int (-1)]) gl
          exact q r (.ref p) _ _ ((s3.trans s4).trans (s5.new gr)) upd_same (told.same (s5.new gr))
theorem if_join {c : TT} {t R : TS} {D : Ends} {σ : L2.St} {H : Hp} {S : Bool → Hp → Prop} {Pv : L2.St → Hp → Prop} (hc : ∀ Q : Bool → Hp → Prop, (∀ b H1, S b H1 → Q b H1) → c σ H Q)
    (h1 : ∀ H1, S true H1 → ∀ D' : Ends, (∀ σ' H', Pv σ' H' → D'.nx σ' H') → t D' σ H1) (h2 : ∀ H1, S false H1 → Pv σ H1) (hr : ∀ σ' H', Pv σ' H' → R D σ' H') : tSeq (tIfS c t tNext) R D σ H := by
  refine hc _ fun b H1 s => ?_
  cases b with
  | true => exact iteT (h1 H1 s _ hr)
  | false => exact iteF (hr _ _ (h2 H1 s))
theorem cols_int (gs : List Gp) : cols gs = (gs.map fun g => (g.1 : Int)).map V.int := by unfold cols; rw [List.map_map]; rfl
theorem eq_cols {H : Hp} (gs : List Gp) : Paired (EqD K H 1) (cols gs) (cols gs) := by
  unfold cols
  induction gs with
  | nil => exact .nil
  | cons g r ih => exact .cons (.inl ⟨rfl, rfl⟩) ih
theorem eq_nats {H : Hp} : ∀ ks : List Nat, Paired (EqD K H 0) (natsV ks) (natsV ks)
  | [] => .nil
  | k :: r => .cons ⟨rfl, rfl⟩ (eq_nats r)
theorem eq_cuts {H : Hp} : ∀ {ws vs : List V} {kss : List (List Nat)}, Paired (PAt H) ws kss → Paired (PAt H) vs kss → Paired (EqD K H 1) ws vs
  | _, _, _, .nil, .nil => .nil
  | _, _, _, .cons ⟨a, ea, ha⟩ r, .cons ⟨b, eb, hb⟩ r' => .cons (.inr ⟨a, b, _, _, ea, eb, SqT.of ha, SqT.of hb, eq_nats _⟩) (eq_cuts r r')
theorem paired_take {α β : Type} {F : α → β → Prop} (n : Nat) : ∀ {xs : List α} {ys : List β}, Paired F xs ys → Paired F (xs.take n) (ys.take n) := by
  induction n with
  | zero => intro xs ys _; simp only [List.take_zero]; exact .nil
  | succ n ih =>
    intro xs ys h
    cases h with
    | nil => exact .nil
    | cons a r => exact .cons a (ih r)
theorem cut_to {xs : List V} {k : Nat} (h : k < xs.length) : ¬ (HT.sIx xs.length 0 none = 0 ∧ HT.sIx xs.length xs.length (some (k : Int)) = xs.length) ∧ cutV xs none (some (k : Int)) = xs.take k := by
  have e : HT.sIx xs.length xs.length (some (k : Int)) = k := by
    unfold HT.sIx
    simp
    rw [if_neg (by omega)]
    omega
  have e0 : HT.sIx xs.length 0 none = 0 := rfl
  unfold cutV
  rw [e, e0]
  exact ⟨by omega, by simp⟩
def spLaw (K : PySem.W.Frag) : Sp := fun vs H Q _ => ∃ (a : Addr) (ns : List Int), vs = [.ref a] ∧ SqL K H a (ns.map V.int) ∧ ns.length ≤ 63 ∧ ∀ H', Q (.bl true) H'
theorem law_fn {f : Addr} {fd : FuncData} (F : Fun K "law" "law" s_law f fd) (T : Txt K mg) : FnOk P w K mg base CX0 7 f fd ["_law_script"] (spLaw K) := by
  obtain ⟨A, hX⟩ := T.xs
  have C_law_cell_at := ok_cell (P := P) (w := w) (base := base) T
  have C_law_toll := ok_toll (P := P) (w := w) (base := base) T
  have C_law_groups := ok_groups (P := P) (w := w) (base := base) T
  have C_law_even := ok_even (P := P) (w := w) (base := base) T
  have C_table := ok_table (P := P) (w := w) (base := base) T
  have C_cheapest := ok_cheapM (P := P) (w := w) (base := base) T
  have C_law_is_cut := ok_is_cut (P := P) (w := w) (base := base) T
  have C_law_numbers := ok_numbers (P := P) (w := w) (base := base) T
  have C_law_paid := ok_paid2 (P := P) (w := w) (base := base) T
  have C_law_refused := ok_refused (P := P) (w := w) (base := base) T hX
  refine F.ok sc_law (fun vs H Q E h => ?_) (fun cdv A0 outer s H vs Q E hr h => ?_)
  · obtain ⟨a, ns, rfl, _⟩ := h
    rfl
  · obtain ⟨a, ns, rfl, hS, hlen, q⟩ := h
    have hu2 : (A0.deeper (envOfC "law" (defScope s_law) s.heap.objs.size f cdv)).units + 1 + 1 < cLine := Nat.lt_of_le_of_lt (by omega) hr.units
    refine ⟨_, (pss_cons (ps_set (i := 1) sc_law.nd rfl (Or.inl rfl) (pe_op op_add pe_int (pe_op op_mod (pe_fn C_law_cell_at hr (by rfl) (pa_cons (pv 0) (pa_cons pe_int pa_nil))) pe_int)))
      (pss_cons (ps_set (i := 2) sc_law.nd rfl (Or.inl rfl) (pe_fn C_law_groups hr (by rfl) (pa_cons (pv 0) (pa_cons pe_int (pa_cons (pv 1) (pa_cons (pe_op op_mod (pe_fn C_law_cell_at hr (by rfl) (pa_cons (pv 0) (pa_cons pe_int pa_nil))) pe_int) pa_nil))))))
      (pss_cons (ps_set (i := 3) sc_law.nd rfl (Or.inl rfl) (pe_fn C_law_toll hr (by rfl) (pa_cons (pe_fn C_law_cell_at hr (by rfl) (pa_cons (pv 0) (pa_cons pe_int pa_nil))) pa_nil)))
      (pss_cons (ps_set (i := 4) sc_law.nd rfl (Or.inl rfl) (pe_callTy call_tuple_of (by rfl) T.n_tuple boot_tuple (pa_cons (pe_comp (M := ["_law_shade", "_law_names", "_law_size"]) (ρ := [none, none, none]) (defScope s_law) ["_law_script", "_law_many", "_law_drawn", "_law_toll_here", "_law_told", "_law_found", "_law_each", "_law_both", "_law_due", "_law_shades", "_law_refused_here"] ⟨rfl, by decide +kernel, by decide +kernel, by decide +kernel, rfl, by decide +kernel, by decide +kernel⟩ (pi_tup (pv 2)) (fun _ _ _ _ _ _ => (pg_tupK (K := K) (n := 3) rfl rfl (pgs_cons (pg_name (i := 0) (show (["_law_shade", "_law_names", "_law_size"] : List Str).Nodup by decide +kernel) rfl (Or.inl rfl)) (pgs_cons (pg_name (i := 1) (show (["_law_shade", "_law_names", "_law_size"] : List Str).Nodup by decide +kernel) rfl (Or.inl rfl)) (pgs_cons (pg_name (i := 2) (show (["_law_shade", "_law_names", "_law_size"] : List Str).Nodup by decide +kernel) rfl (Or.inl rfl)) pgs_nil))))) (fun _ _ _ _ _ _ => pts_nil) (fun _ _ _ _ _ _ => (pe_tup (pa_cons (pv 0) (pa_cons (pv 1) (pa_cons (pe_op op_add pe_int (pe_op op_mod (pv 2) (pe_op op_pow pe_int pe_int))) pa_nil)))))) pa_nil)))
      (pss_cons (ps_if (pt_cmpR op_gt (pe_op op_mod (pe_fn C_law_cell_at hr (by rfl) (pa_cons (pv 0) (pa_cons pe_int pa_nil))) pe_int) pe_int (nomark _))
        (pss_one (ps_asg (pe_fn C_law_even hr (by rfl) (pa_cons (pv 4) (pa_cons (pe_op op_sub (pe_op op_mod (pe_fn C_law_cell_at hr (by rfl) (pa_cons (pv 0) (pa_cons pe_int pa_nil))) pe_int) pe_int) pa_nil))) (pg_tup rfl (pgs_cons (pg_name (i := 4) sc_law.nd rfl (Or.inl rfl)) (pgs_cons (pg_name (i := 3) sc_law.nd rfl (Or.inl rfl)) pgs_nil))))) pss_nil)
      (pss_cons (ps_set (i := 5) sc_law.nd rfl (Or.inl rfl) (pe_fn C_cheapest hr (by rfl) (pa_cons (pv 4) (pa_cons (pv 3) pa_nil))))
      (pss_cons (ps_if (pt_not (pt_val (pe_fn C_law_is_cut hr (by rfl) (pa_cons (pv 5) (pa_cons (pv 1) pa_nil)))))
        (pss_one (ps_ret pe_bl)) pss_nil)
      (pss_cons (ps_set (i := 6) sc_law.nd rfl (Or.inl rfl) (pe_callTy call_tuple_of (by rfl) T.n_tuple boot_tuple (pa_cons (pe_comp (M := ["_law_k"]) (ρ := [none]) (defScope s_law) ["_law_script", "_law_many", "_law_drawn", "_law_toll_here", "_law_told", "_law_found", "_law_each", "_law_both", "_law_due", "_law_shades", "_law_refused_here"] ⟨rfl, by decide +kernel, by decide +kernel, by decide +kernel, rfl, by decide +kernel, by decide +kernel⟩ (pi_range1 (by rfl) T.n_range (pa_cons (pv 1) pa_nil)) (fun _ _ _ _ _ _ => (pg_name (i := 0) (show (["_law_k"] : List Str).Nodup by decide +kernel) rfl (Or.inl rfl))) (fun _ _ _ _ _ _ => pts_nil) (fun _ _ _ _ _ _ => (pe_tup (pa_cons (pv 0) pa_nil)))) pa_nil)))
      (pss_cons (ps_set (i := 7) sc_law.nd rfl (Or.inl rfl) (pe_tup (pa_cons (pe_trng rfl (pv 1) (by rfl) T.n_tuple (by rfl) T.n_range) pa_nil)))
      (pss_cons (ps_set (i := 8) sc_law.nd rfl (Or.inl rfl) (pv 7))
      (pss_cons (ps_if (pt_cmpR op_le (pe_fn C_law_paid hr (by rfl) (pa_cons (pv 4) (pa_cons (pv 3) (pa_cons (pv 6) pa_nil)))) (pe_fn C_law_paid hr (by rfl) (pa_cons (pv 4) (pa_cons (pv 3) (pa_cons (pv 7) pa_nil)))) (nomark _))
        (pss_one (ps_set (i := 8) sc_law.nd rfl (Or.inl rfl) (pv 6))) pss_nil)
      (pss_cons (ps_set (i := 9) sc_law.nd rfl (Or.inl rfl) (pe_callTy call_tuple_of (by rfl) T.n_tuple boot_tuple (pa_cons (pe_comp (M := ["_law_shade", "_law_names", "_law_size"]) (ρ := [none, none, none]) (defScope s_law) ["_law_script", "_law_many", "_law_drawn", "_law_toll_here", "_law_told", "_law_found", "_law_each", "_law_both", "_law_due", "_law_shades", "_law_refused_here"] ⟨rfl, by decide +kernel, by decide +kernel, by decide +kernel, rfl, by decide +kernel, by decide +kernel⟩ (pi_tup (pv 4)) (fun _ _ _ _ _ _ => (pg_tupK (K := K) (n := 3) rfl rfl (pgs_cons (pg_name (i := 0) (show (["_law_shade", "_law_names", "_law_size"] : List Str).Nodup by decide +kernel) rfl (Or.inl rfl)) (pgs_cons (pg_name (i := 1) (show (["_law_shade", "_law_names", "_law_size"] : List Str).Nodup by decide +kernel) rfl (Or.inl rfl)) (pgs_cons (pg_name (i := 2) (show (["_law_shade", "_law_names", "_law_size"] : List Str).Nodup by decide +kernel) rfl (Or.inl rfl)) pgs_nil))))) (fun _ _ _ _ _ _ => pts_nil) (fun _ _ _ _ _ _ => (pv 0))) pa_nil)))
      (pss_cons (ps_set (i := 10) sc_law.nd rfl (Or.inl rfl) (pe_fn C_law_refused hr (by rfl) (pa_cons (pv 4) (pa_cons (pv 3) pa_nil))))
      (pss_cons (ps_if (PW.pt (pw_or (pt_cmpR (op_neD 1 hu2) (pv 5) (pv 8) (nomark _)) (pw_or (pt_not (pt_val (pe_fn C_law_numbers hr (by rfl) (pa_cons (pv 10) (pa_cons (pv 1) pa_nil))))) (pw_or1 (pt_cmpR (op_neD 1 hu2) (pv 10) (pv 9) (nomark _))))))
        (pss_one (ps_ret pe_bl)) pss_nil)
      (pss_cons (ps_if (pt_cmpR op_eq (pe_op op_mod (pe_op op_fdiv (pe_fn C_law_cell_at hr (by rfl) (pa_cons (pv 0) (pa_cons pe_int pa_nil))) pe_int) pe_int) pe_int (nomark _))
        (pss_one (ps_ret (pe_fn C_law_numbers hr (by rfl) (pa_cons (pe_fn C_table hr (by rfl) (pa_cons (pe_slice sl_tup (pv 4) po_none (po_some pe_int)) (pa_cons (pv 3) pa_nil))) (pa_cons pe_int pa_nil))))) pss_nil)
      (pss_one (ps_ret (pe_fn C_law_numbers hr (by rfl) (pa_cons (pe_fn C_table hr (by rfl) (pa_cons (pe_slice sl_tup (pv 4) po_none (po_some pe_int)) (pa_cons (pv 3) pa_nil))) (pa_cons pe_int pa_nil)))))))))))))))))))), ?_⟩
    refine ⟨_, rfl, a, ns, 0, rfl, hS, by decide, fun c0 => ⟨_, _, rfl, rfl, (by show (0 : Int) < 16; decide), _, _, rfl, rfl, ?_⟩⟩
    obtain ⟨n, hn⟩ : ∃ n : Nat, 9 + c0 % 16 = (n : Int) := ⟨(9 + c0 % 16).toNat, by have := Int.emod_nonneg c0 (show (16 : Int) ≠ 0 by decide); omega⟩
    have n9 : 9 ≤ n := by have := Int.emod_nonneg c0 (show (16 : Int) ≠ 0 by decide); omega
    have n24 : n ≤ 24 := by have := Int.emod_lt_of_pos c0 (show (0 : Int) < 16 by decide); omega
    show gName 1 (.int (9 + c0 % 16)) _ _ _
    rw [hn]
    refine ⟨_, rfl, _, rfl, _, rfl, a, ns, 2, rfl, hS, by decide, fun c2 => ⟨_, _, rfl, rfl, (by show (0 : Int) < 4; decide), a, ns, 4, (n : Int), c2 % 4, rfl, hS, by decide, by decide, by omega, by omega, fun x vs gs0 H1 s1 hx hvs hgl hgo => ?_⟩⟩
    rw [Int.toNat_natCast] at hgl
    have hvl : vs.length = gs0.length := Paired.length hvs
    refine ⟨_, rfl, a, ns, 1, rfl, s1.seq hS, by decide, fun c1 => ⟨c1, rfl, fun t0 => ?_⟩⟩
    refine ⟨_, rfl, x, rfl, ⟨_, SqT.of hx⟩, fun D gD => ?_⟩
    refine comp_by vs.length (fun i σ H2 => ∃ v0 v1 v2 : Option V, σ = [v0, v1, v2] ∧ Same H1 H2 ∧ ∃ L, H2 D = some (.lst L) ∧ Paired (GAt H2) L ((gs0.take i).map fun g => (g.1, 1 + g.2 % 10 ^ 40))) ⟨_, _, _, rfl, (Same.refl _).new gD, [], upd_same, .nil⟩ ?_ ?_
    · rintro i σ H2 hi ⟨v0, v1, v2, rfl, s2, L, hD2, hL⟩
      refine ⟨⟨vs, vs[i], SqT.of (s2 _ _ hx), by simp⟩, ?_⟩
      rintro y H3 ⟨rfl, hy⟩
      obtain ⟨g, hg, tt, u, ey, htt⟩ := Paired.get? hvs (hy _ (SqT.of (s2 _ _ hx)))
      subst ey
      have hLl : L.length = i := by
        have e1 : L.length = _ := Paired.length hL
        rw [List.length_map, List.length_take] at e1
        omega
      refine ⟨tt, _, rfl, SqT.of (s2 _ _ htt), rfl, _, _, rfl, _, _, rfl, _, _, rfl, rfl, ?_⟩
      refine nt ?_
      refine ⟨_, rfl, _, rfl, _, rfl, _, _, rfl, rfl, ⟨by decide, by decide, by decide⟩, _, _, rfl, rfl, (by show (0 : Int) < 10 ^ (40 : Int).toNat; decide), _, _, rfl, rfl, (by show 3 ≤ sizeLine; decide), fun tn gn => ?_⟩
      have s4 : Same H3 (upd H3 tn (.tup [.int (g.1 : Int), u, .int (1 + g.2 % 10 ^ 40)])) := (Same.refl _).new gn
      have t4 := Tups.lst (ys := L ++ [.ref tn]) (s4 _ _ hD2)
      refine ⟨L, s4 _ _ hD2, small1000 (by omega), _, _, _, rfl, (s2.trans s4).put gD, _, upd_same, ?_⟩
      rw [take_succ_get hg, List.map_append]
      exact Paired.snoc (Paired.mapP hL fun _ _ z => z.mono (s4.tups.trans t4)) ⟨tn, u, rfl, t4 _ _ upd_same⟩
    rintro σ H2 ⟨v0, v1, v2, rfl, s2, L, hD2, hL⟩
    refine ⟨⟨vs, SqT.of (s2 _ _ hx), Nat.le_refl _⟩, ?_⟩
    rw [hvl, List.take_length] at hL
    refine ⟨D, _, rfl, .inl ⟨SqL.of hD2, fun p gp => ?_⟩⟩
    have s3 : Same H2 (upd H2 p (.tup L)) := (Same.refl _).new gp
    have told : Told (upd H2 p (.tup L)) (.ref p) n := ⟨p, L, _, rfl, upd_same, Paired.mapP hL fun _ _ z => z.mono s3.tups, ⟨fun g hg => by
      obtain ⟨g0, h0, rfl⟩ := List.mem_map.mp hg
      exact hgo.lt g0 h0⟩, by rw [List.length_map]; exact hgl⟩
    generalize upd H2 p (.tup L) = H3 at s3 told
    have s13 := (s1.trans s2).trans s3
    have hS3 := s13.seq hS
    refine to_g (if_join (S := fun b H4 => H4 = H3) (Pv := fun σ' H' => ∃ (v4 : V) (t : Int) (v2 : Option V), σ' = [some (.ref a), some (.int (n : Int)), v2, some (.int t), some v4, none, none, none, none, none, none] ∧ Same H3 H' ∧ Told H' v4 n) (fun Q' h => ⟨_, rfl, a, ns, 3, rfl, hS3, by decide, fun c3 => ⟨_, _, rfl, rfl, (by show (0 : Int) < 4; decide), _, _, rfl, rfl, _, rfl, h _ _ rfl⟩⟩) ?_ ?_ ?_)
    · rintro H4 rfl D' hD'
      refine ⟨_, rfl, _, rfl, a, ns, 3, rfl, hS3, by decide, fun c3 => ⟨_, _, rfl, rfl, (by show (0 : Int) < 4; decide), _, _, rfl, rfl, .ref p, n, _, rfl, told, n24, ?_, ?_, fun r v' t' H5 s5 hr5 ht5 => ?_⟩⟩
      · have := Int.emod_nonneg c3 (show (4 : Int) ≠ 0 by decide)
        show -1 ≤ c3 % 4 - 1
        omega
      · have := Int.emod_lt_of_pos c3 (show (0 : Int) < 4 by decide)
        show c3 % 4 - 1 < 3
        omega
      · exact ⟨r, _, rfl, SqT.of hr5, rfl, _, _, rfl, _, _, rfl, rfl, hD' _ _ ⟨v', t', _, rfl, s5, ht5⟩⟩
    · rintro H4 rfl
      exact ⟨.ref p, t0, _, rfl, Same.refl _, told⟩
    rintro σ4 H4 ⟨v4, t, w2, rfl, s4, ⟨b, us, gs, rfl, hb, hus, hok, hgn⟩⟩
    have hS4 := s4.seq hS3
    refine ⟨_, rfl, _, rfl, b, us, gs, t, rfl, hb, hus, hok, by omega, by omega, fun pf wf H5 s5 hpf hwf => ?_⟩
    have hcut := due_cut (gs := gs) (t := t) (by omega) (by omega)
    rw [hgn] at hcut
    refine ⟨_, rfl, _, rfl, pf, wf, dueC gs t, n, rfl, hpf, hwf, hcut, n24, fun H6 s6 => ⟨_, rfl, iteF ?_⟩⟩
    have s46 := s5.trans s6
    refine ⟨_, rfl, _, rfl, by omega, by omega, fun D2 gD2 => ?_⟩
    rw [Int.toNat_natCast]
    refine comp_by n (fun i σ H2 => ∃ (v0 : Option V) (ws : List V), σ = [v0] ∧ Same H6 H2 ∧ H2 D2 = some (.lst ws) ∧ Paired (PAt H2) ws (tightC i)) ⟨_, [], rfl, (Same.refl H6).new gD2, upd_same, .nil⟩ ?_ ?_
    · rintro i σ H7 hi ⟨v0, ws, rfl, s7, hD7, hws⟩
      have hwl : ws.length = i := by
        have := Paired.length hws
        rw [tight_len] at this
        exact this
      refine ⟨hi, ?_⟩
      rintro y H8 ⟨rfl, rfl⟩
      refine ntG ?_
      refine ⟨_, rfl, (by show 1 ≤ sizeLine; decide), fun tn gn => ?_⟩
      have s8 : Same H8 (upd H8 tn (.tup [.int (0 + (i : Int))])) := (Same.refl H8).new gn
      have t8 := Tups.lst (ys := ws ++ [.ref tn]) (s8 _ _ hD7)
      refine ⟨ws, s8 _ _ hD7, small1000 (by omega), _, ws ++ [.ref tn], rfl, (s7.trans s8).put gD2, upd_same, ?_⟩
      unfold tightC
      rw [List.range_succ, List.map_append]
      refine Paired.snoc (Paired.mapP hws fun _ _ z => z.mono (s8.tups.trans t8)) ⟨tn, rfl, t8 _ _ ?_⟩
      rw [upd_same, Int.zero_add]
      rfl
    rintro σ H7 ⟨v0, we, rfl, s7, hD7, hwe⟩
    refine ⟨Nat.le_refl _, ?_⟩
    refine ⟨D2, _, rfl, .inl ⟨SqL.of hD7, fun pe gpe => ?_⟩⟩
    have s8 : Same H7 (upd H7 pe (.tup we)) := (Same.refl H7).new gpe
    have hpe : upd H7 pe (.tup we) pe = some (.tup we) := upd_same
    have hwe8 : Paired (PAt (upd H7 pe (.tup we))) we (tightC n) := Paired.mapP hwe fun _ _ z => z.mono s8.tups
    generalize upd H7 pe (.tup we) = H8 at s8 hpe hwe8 ⊢
    refine ⟨_, rfl, n, rfl, by omega, fun tr gtr => ⟨by show 1 ≤ sizeLine; decide, fun pb gpb => ?_⟩⟩
    have s9 := ((Same.refl H8).new (o := .tup (rngV n)) gtr).new (o := .tup [.ref tr]) gpb
    have hpb : upd (upd H8 tr (.tup (rngV n))) pb (.tup [.ref tr]) pb = some (.tup [.ref tr]) := upd_same
    have hwb : Paired (PAt (upd (upd H8 tr (.tup (rngV n))) pb (.tup [.ref tr]))) [.ref tr] (oneC n) := by
      have e : oneC n = [List.range n] := by unfold oneC; rw [if_neg (by omega)]
      rw [e]
      exact .cons ⟨tr, rfl, upd_keep upd_same gpb⟩ .nil
    generalize upd (upd H8 tr (.tup (rngV n))) pb (.tup [.ref tr]) = H9 at s9 hpb hwb ⊢
    have s49 := ((s46.trans s7).trans s8).trans s9
    have hpe9 := s9 _ _ hpe
    have hwe9 : Paired (PAt H9) we (tightC n) := Paired.mapP hwe8 fun _ _ z => z.mono s9.tups
    have hb9 := s49 _ _ hb
    have hus9 : Paired (GAt H9) us gs := Paired.mapP hus fun _ _ z => z.mono s49.tups
    have hpf9 := (((s6.trans s7).trans s8).trans s9) _ _ hpf
    have hwf9 : Paired (PAt H9) wf (dueC gs t) := Paired.mapP hwf fun _ _ z => z.mono (((s6.trans s7).trans s8).trans s9).tups
    refine ⟨_, rfl, ?_⟩
    refine to_g (if_join (S := fun b H' => Same H9 H' ∧ b = decide (totP gs t (tightC n) ≤ totP gs t (oneC n))) (Pv := fun σ' H' => ∃ (pd : Addr) (wd : List V) (v2 v8 v9 v10 : Option V), σ' = [some (.ref a), some (.int (n : Int)), v2, some (.int t), some (.ref b), some (.ref pf), some (.ref pe), some (.ref pb), some (.ref pd), none, none] ∧ Same H9 H' ∧ H' pd = some (.tup wd) ∧ Paired (PAt H') wd (dueC gs t)) (fun Q' h => ?_) ?_ ?_ ?_)
    · refine ⟨_, rfl, _, rfl, _, rfl, b, pe, us, gs, t, tightC n, rfl, hb9, hus9, hok, .inl ⟨we, hpe9, hwe9, by rw [hgn]; exact tight_lt, by rw [tight_len]; exact n24⟩, fun H10 s10 => ?_⟩
      refine ⟨_, rfl, _, rfl, _, rfl, b, pb, us, gs, t, oneC n, rfl, s10 _ _ hb9, Paired.mapP hus9 fun _ _ z => z.mono s10.tups, hok, .inl ⟨_, s10 _ _ hpb, Paired.mapP hwb fun _ _ z => z.mono s10.tups, by rw [hgn]; exact one_lt, by have := one_len n; omega⟩, fun H11 s11 => ⟨_, _, rfl, rfl, _, rfl, h _ _ ⟨s10.trans s11, rfl⟩⟩⟩
    · rintro H10 ⟨s10, e⟩ D' hD'
      refine ⟨_, rfl, hD' _ _ ⟨pe, we, _, none, none, none, rfl, s10, s10 _ _ hpe9, ?_⟩⟩
      unfold dueC
      rw [hgn, if_pos (of_decide_eq_true e.symm)]
      exact Paired.mapP hwe9 fun _ _ z => z.mono s10.tups
    · rintro H10 ⟨s10, e⟩
      refine ⟨pb, _, _, none, none, none, rfl, s10, s10 _ _ hpb, ?_⟩
      unfold dueC
      rw [hgn, if_neg (of_decide_eq_false e.symm)]
      exact Paired.mapP hwb fun _ _ z => z.mono s10.tups
    rintro σ10 H10 ⟨pd, wd, w8, _, _, _, rfl, s10, hpd, hwd⟩
    have hb10 := s10 _ _ hb9
    have hus10 : Paired (GAt H10) us gs := Paired.mapP hus9 fun _ _ z => z.mono s10.tups
    have hul : us.length = gs.length := Paired.length hus
    refine ⟨_, rfl, b, rfl, ⟨_, SqT.of hb10⟩, fun D3 gD3 => ?_⟩
    refine comp_by us.length (fun i σ H2 => ∃ v0 v1 v2 : Option V, σ = [v0, v1, v2] ∧ Same H10 H2 ∧ H2 D3 = some (.lst (cols (gs.take i)))) ⟨_, _, _, rfl, (Same.refl _).new gD3, upd_same⟩ ?_ ?_
    · rintro i σ H11 hi ⟨v0, v1, v2, rfl, s11, hD11⟩
      refine ⟨⟨us, us[i], SqT.of (s11 _ _ hb10), by simp⟩, ?_⟩
      rintro y H12 ⟨rfl, hy⟩
      obtain ⟨g, hg, tt, u, ey, htt⟩ := Paired.get? hus10 (hy _ (SqT.of (s11 _ _ hb10)))
      subst ey
      refine ⟨tt, _, rfl, SqT.of (s11 _ _ htt), rfl, _, _, rfl, _, _, rfl, _, _, rfl, rfl, ?_⟩
      refine nt ?_
      refine ⟨_, rfl, _, hD11, small1000 (by rw [cols_len, List.length_take]; omega), _, _, _, rfl, s11.put gD3, ?_⟩
      rw [upd_same, cols_snoc hg]
    rintro σ H11 ⟨v0, v1, v2, rfl, s11, hD11⟩
    refine ⟨⟨us, SqT.of (s11 _ _ hb10), Nat.le_refl _⟩, ?_⟩
    rw [hul, List.take_length] at hD11
    refine ⟨D3, _, rfl, .inl ⟨SqL.of hD11, fun ps gps => ?_⟩⟩
    have s12 : Same H11 (upd H11 ps (.tup (cols gs))) := (Same.refl _).new gps
    have hps : upd H11 ps (.tup (cols gs)) ps = some (.tup (cols gs)) := upd_same
    generalize upd H11 ps (.tup (cols gs)) = H12 at s12 hps ⊢
    have s1012 := s11.trans s12
    have hb12 := s1012 _ _ hb10
    have hus12 : Paired (GAt H12) us gs := Paired.mapP hus10 fun _ _ z => z.mono s1012.tups
    refine ⟨_, rfl, _, rfl, b, us, gs, t, rfl, hb12, hus12, by omega, by omega, fun pr H13 s13' hpr => ?_⟩
    have s1013 := s1012.trans s13'
    have hwf13 : Paired (PAt H13) wf (dueC gs t) := Paired.mapP hwf9 fun _ _ z => z.mono (s10.trans s1013).tups
    have hwd13 : Paired (PAt H13) wd (dueC gs t) := Paired.mapP hwd fun _ _ z => z.mono s1013.tups
    refine ⟨_, rfl, _, rfl, pf, pd, wf, wd, rfl, rfl, SqT.of ((s10.trans s1013) _ _ hpf9), SqT.of (s1013 _ _ hpd), eq_cuts hwf13 hwd13, _, rfl, iteF ?_⟩
    refine ⟨_, rfl, _, rfl, pr, gs.map (fun g => (g.1 : Int)), ?_, by rw [← cols_int]; exact hpr, by rw [List.length_map]; omega, fun H14 s14 => ⟨_, rfl, iteF ?_⟩⟩
    · rw [List.length_map, hgn]
      rfl
    refine ⟨_, rfl, _, rfl, pr, ps, _, _, rfl, rfl, SqT.of (s14 _ _ hpr), SqT.of (s14 _ _ (s13' _ _ hps)), eq_cols gs, _, rfl, iteF ?_⟩
    have s1014 := s1013.trans s14
    have hb14 := s1014 _ _ hb10
    have hus14 : Paired (GAt H14) us gs := Paired.mapP hus10 fun _ _ z => z.mono s1014.tups
    have hS14 := ((s49.trans s10).trans s1014).seq hS4
    refine ⟨_, rfl, a, ns, 0, rfl, hS14, by decide, fun c0' => ⟨_, _, rfl, rfl, ⟨by decide, by decide⟩, _, _, rfl, rfl, (by show (0 : Int) < 8; decide), rfl, _, rfl, ?_⟩⟩
    refine ite2I (fun _ => ?_) fun _ => ?_
    · obtain ⟨nw, ec⟩ := cut_to (xs := us) (k := 8) (by omega)
      have ec2 : cutV us none (some (8 : Int)) = us.take 8 := ec
      refine ⟨_, rfl, _, rfl, b, us, rfl, SqT.of hb14, nw, fun pt gpt => ?_⟩
      rw [ec2]
      have s15 : Same H14 (upd H14 pt (.tup (us.take 8))) := (Same.refl _).new gpt
      refine ⟨_, rfl, pt, us.take 8, gs.take 8, t, rfl, upd_same, Paired.mapP (paired_take 8 hus14) fun _ _ z => z.mono s15.tups, ⟨fun g hg => hok.lt g (List.mem_of_mem_take hg)⟩, by rw [List.length_take]; omega, fun pt2 bs H16 s16 hpt2 _ hbl => ?_⟩
      refine ⟨pt2, bs.map (·.1), ?_, hpt2, ?_, fun H17 _ => q _⟩
      · rw [List.length_map, hbl, List.length_take, show min 8 gs.length = 8 by omega]
        rfl
      · rw [List.length_map, hbl, List.length_take, show min 8 gs.length = 8 by omega]
        decide
    · obtain ⟨nw, ec⟩ := cut_to (xs := us) (k := 5) (by omega)
      have ec2 : cutV us none (some (5 : Int)) = us.take 5 := ec
      refine ⟨_, rfl, _, rfl, b, us, rfl, SqT.of hb14, nw, fun pt gpt => ?_⟩
      rw [ec2]
      have s15 : Same H14 (upd H14 pt (.tup (us.take 5))) := (Same.refl _).new gpt
      refine ⟨_, rfl, pt, us.take 5, gs.take 5, t, rfl, upd_same, Paired.mapP (paired_take 5 hus14) fun _ _ z => z.mono s15.tups, ⟨fun g hg => hok.lt g (List.mem_of_mem_take hg)⟩, by rw [List.length_take]; omega, fun pt2 bs H16 s16 hpt2 _ hbl => ?_⟩
      refine ⟨pt2, bs.map (·.1), ?_, hpt2, ?_, fun H17 _ => q _⟩
      · rw [List.length_map, hbl, List.length_take, show min 5 gs.length = 5 by omega]
        rfl
      · rw [List.length_map, hbl, List.length_take, show min 5 gs.length = 5 by omega]
        decide
end
end K57
set_option Elab.async false
set_option linter.all false
set_option maxRecDepth 100000
namespace K57
open PySem L2
theorem all_mk {l : PySem.W.OpenLaw} {w : World} {K : PySem.W.Frag} {h : Heap} {mg : Str → Option Value} {fa : Addr} (X : K.In h) (G : h.Ns mainGlobals mg) (hfa : mg "law" = some (.ref fa))
    {f0 : Addr} {od0 an0 : Option Addr} {sl0 : Array (Option Value)} {oc0 kV0 dc0 pm0 cd0 ct0 : Value}
    {f1 : Addr} {od1 an1 : Option Addr} {sl1 : Array (Option Value)} {oc1 kV1 dc1 pm1 cd1 ct1 : Value}
    {f2 : Addr} {od2 an2 : Option Addr} {sl2 : Array (Option Value)} {oc2 kV2 dc2 pm2 cd2 ct2 : Value}
    {f3 : Addr} {od3 an3 : Option Addr} {sl3 : Array (Option Value)} {oc3 kV3 dc3 pm3 cd3 ct3 : Value}
    {f4 : Addr} {od4 an4 : Option Addr} {sl4 : Array (Option Value)} {oc4 kV4 dc4 pm4 cd4 ct4 : Value}
    {f5 : Addr} {od5 an5 : Option Addr} {sl5 : Array (Option Value)} {oc5 kV5 dc5 pm5 cd5 ct5 : Value}
    {f6 : Addr} {od6 an6 : Option Addr} {sl6 : Array (Option Value)} {oc6 kV6 dc6 pm6 cd6 ct6 : Value}
    {f7 : Addr} {od7 an7 : Option Addr} {sl7 : Array (Option Value)} {oc7 kV7 dc7 pm7 cd7 ct7 : Value}
    {f8 : Addr} {od8 an8 : Option Addr} {sl8 : Array (Option Value)} {oc8 kV8 dc8 pm8 cd8 ct8 : Value}
    {f9 : Addr} {od9 an9 : Option Addr} {sl9 : Array (Option Value)} {oc9 kV9 dc9 pm9 cd9 ct9 : Value}
    {f10 : Addr} {od10 an10 : Option Addr} {sl10 : Array (Option Value)} {oc10 kV10 dc10 pm10 cd10 ct10 : Value}
    {f11 : Addr} {od11 an11 : Option Addr} {sl11 : Array (Option Value)} {oc11 kV11 dc11 pm11 cd11 ct11 : Value}
    {f12 : Addr} {od12 an12 : Option Addr} {sl12 : Array (Option Value)} {oc12 kV12 dc12 pm12 cd12 ct12 : Value}
    {f13 : Addr} {od13 an13 : Option Addr} {sl13 : Array (Option Value)} {oc13 kV13 dc13 pm13 cd13 ct13 : Value}
    {f14 : Addr} {od14 an14 : Option Addr} {sl14 : Array (Option Value)} {oc14 kV14 dc14 pm14 cd14 ct14 : Value}
    {f15 : Addr} {od15 an15 : Option Addr} {sl15 : Array (Option Value)} {oc15 kV15 dc15 pm15 cd15 ct15 : Value}
    {f16 : Addr} {od16 an16 : Option Addr} {sl16 : Array (Option Value)} {oc16 kV16 dc16 pm16 cd16 ct16 : Value}
    {f17 : Addr} {od17 an17 : Option Addr} {sl17 : Array (Option Value)} {oc17 kV17 dc17 pm17 cd17 ct17 : Value}
    {f18 : Addr} {od18 an18 : Option Addr} {sl18 : Array (Option Value)} {oc18 kV18 dc18 pm18 cd18 ct18 : Value}
    {f19 : Addr} {od19 an19 : Option Addr} {sl19 : Array (Option Value)} {oc19 kV19 dc19 pm19 cd19 ct19 : Value}
    {f20 : Addr} {od20 an20 : Option Addr} {sl20 : Array (Option Value)} {oc20 kV20 dc20 pm20 cd20 ct20 : Value}
    {tk0 : Tok}
    {c_BundleError : Addr}
    {c_TooMany : Addr}
    {c_Asks : Addr}
    {c_Endless : Addr}
    {c_NoMap : Addr}
    {c_NoName : Addr}
    {c_NoPart : Addr}
    {c_NoPlace : Addr}
    {c_NoRow : Addr}
    {c_NotGiven : Addr}
    {c_Twice : Addr}
    {cd_c_BundleError : ClassData}
    {cd_c_TooMany : ClassData}
    {fi_TooMany : Addr} {iod_TooMany ian_TooMany : Option Addr} {isl_TooMany : Array (Option Value)} {ioc_TooMany ikV_TooMany idc_TooMany ipm_TooMany icd_TooMany ict_TooMany : Value}
    {jN_TooMany : Addr} {jnm_TooMany jq_TooMany : Str} {jbs_TooMany : List Value} {jh_TooMany : Bool} {jsn_TooMany : List Str} {jsub_TooMany : List Value} {jab_TooMany : Bool} {jcol_TooMany : Option Bool} {jdd_TooMany : Option Addr} {j0_TooMany j1_TooMany j2_TooMany j3_TooMany j5_TooMany : Option Value}
    (a0 : PySem.W.nsIn K mainGlobals "price" = some (some (.ref f0))) (l0 : K.lookup f0 = some ⟨oc0, od0, .func (PySem.W.fnOf "price" "price" (defArgs s_price) (defBody s_price) (defScope s_price) .none kV0 dc0 pm0 an0 cd0 ct0), sl0⟩) (c0 : PySem.W.codeIn K cd0 "price" = true) (k0 : PySem.W.keepIn K (.ref f0) = true)
    (a1 : PySem.W.nsIn K mainGlobals "pack_price" = some (some (.ref f1))) (l1 : K.lookup f1 = some ⟨oc1, od1, .func (PySem.W.fnOf "pack_price" "pack_price" (defArgs s_pack_price) (defBody s_pack_price) (defScope s_pack_price) .none kV1 dc1 pm1 an1 cd1 ct1), sl1⟩) (c1 : PySem.W.codeIn K cd1 "pack_price" = true) (k1 : PySem.W.keepIn K (.ref f1) = true)
    (a2 : PySem.W.nsIn K mainGlobals "numbers_in" = some (some (.ref f2))) (l2 : K.lookup f2 = some ⟨oc2, od2, .func (PySem.W.fnOf "numbers_in" "numbers_in" (defArgs s_numbers_in) (defBody s_numbers_in) (defScope s_numbers_in) .none kV2 dc2 pm2 an2 cd2 ct2), sl2⟩) (c2 : PySem.W.codeIn K cd2 "numbers_in" = true) (k2 : PySem.W.keepIn K (.ref f2) = true)
    (a3 : PySem.W.nsIn K mainGlobals "tight" = some (some (.ref f3))) (l3 : K.lookup f3 = some ⟨oc3, od3, .func (PySem.W.fnOf "tight" "tight" (defArgs s_tight) (defBody s_tight) (defScope s_tight) .none kV3 dc3 pm3 an3 cd3 ct3), sl3⟩) (c3 : PySem.W.codeIn K cd3 "tight" = true) (k3 : PySem.W.keepIn K (.ref f3) = true)
    (a4 : PySem.W.nsIn K mainGlobals "single" = some (some (.ref f4))) (l4 : K.lookup f4 = some ⟨oc4, od4, .func (PySem.W.fnOf "single" "single" (defArgs s_single) (defBody s_single) (defScope s_single) .none kV4 dc4 pm4 an4 cd4 ct4), sl4⟩) (c4 : PySem.W.codeIn K cd4 "single" = true) (k4 : PySem.W.keepIn K (.ref f4) = true)
    (a5 : PySem.W.nsIn K mainGlobals "table" = some (some (.ref f5))) (l5 : K.lookup f5 = some ⟨oc5, od5, .func (PySem.W.fnOf "table" "table" (defArgs s_table) (defBody s_table) (defScope s_table) .none kV5 dc5 pm5 an5 cd5 ct5), sl5⟩) (c5 : PySem.W.codeIn K cd5 "table" = true) (k5 : PySem.W.keepIn K (.ref f5) = true)
    (a6 : PySem.W.nsIn K mainGlobals "cheapest" = some (some (.ref f6))) (l6 : K.lookup f6 = some ⟨oc6, od6, .func (PySem.W.fnOf "cheapest" "cheapest" (defArgs s_cheapest) (defBody s_cheapest) (defScope s_cheapest) .none kV6 dc6 pm6 an6 cd6 ct6), sl6⟩) (c6 : PySem.W.codeIn K cd6 "cheapest" = true) (k6 : PySem.W.keepIn K (.ref f6) = true)
    (a7 : PySem.W.nsIn K mainGlobals "best_packs" = some (some (.ref f7))) (l7 : K.lookup f7 = some ⟨oc7, od7, .func (PySem.W.fnOf "best_packs" "best_packs" (defArgs s_best_packs) (defBody s_best_packs) (defScope s_best_packs) .none kV7 dc7 pm7 an7 cd7 ct7), sl7⟩) (c7 : PySem.W.codeIn K cd7 "best_packs" = true) (k7 : PySem.W.keepIn K (.ref f7) = true)
    (a8 : PySem.W.nsIn K mainGlobals "first_packs" = some (some (.ref f8))) (l8 : K.lookup f8 = some ⟨oc8, od8, .func (PySem.W.fnOf "first_packs" "first_packs" (defArgs s_first_packs) (defBody s_first_packs) (defScope s_first_packs) .none kV8 dc8 pm8 an8 cd8 ct8), sl8⟩) (c8 : PySem.W.codeIn K cd8 "first_packs" = true) (k8 : PySem.W.keepIn K (.ref f8) = true)
    (a9 : PySem.W.nsIn K mainGlobals "_law_cell_at" = some (some (.ref f9))) (l9 : K.lookup f9 = some ⟨oc9, od9, .func (PySem.W.fnOf "_law_cell_at" "_law_cell_at" (defArgs s_law_cell_at) (defBody s_law_cell_at) (defScope s_law_cell_at) .none kV9 dc9 pm9 an9 cd9 ct9), sl9⟩) (c9 : PySem.W.codeIn K cd9 "_law_cell_at" = true) (k9 : PySem.W.keepIn K (.ref f9) = true)
    (a10 : PySem.W.nsIn K mainGlobals "_law_whole" = some (some (.ref f10))) (l10 : K.lookup f10 = some ⟨oc10, od10, .func (PySem.W.fnOf "_law_whole" "_law_whole" (defArgs s_law_whole) (defBody s_law_whole) (defScope s_law_whole) .none kV10 dc10 pm10 an10 cd10 ct10), sl10⟩) (c10 : PySem.W.codeIn K cd10 "_law_whole" = true) (k10 : PySem.W.keepIn K (.ref f10) = true)
    (a11 : PySem.W.nsIn K mainGlobals "_law_mixed" = some (some (.ref f11))) (l11 : K.lookup f11 = some ⟨oc11, od11, .func (PySem.W.fnOf "_law_mixed" "_law_mixed" (defArgs s_law_mixed) (defBody s_law_mixed) (defScope s_law_mixed) .none kV11 dc11 pm11 an11 cd11 ct11), sl11⟩) (c11 : PySem.W.codeIn K cd11 "_law_mixed" = true) (k11 : PySem.W.keepIn K (.ref f11) = true)
    (a12 : PySem.W.nsIn K mainGlobals "_law_groups" = some (some (.ref f12))) (l12 : K.lookup f12 = some ⟨oc12, od12, .func (PySem.W.fnOf "_law_groups" "_law_groups" (defArgs s_law_groups) (defBody s_law_groups) (defScope s_law_groups) .none kV12 dc12 pm12 an12 cd12 ct12), sl12⟩) (c12 : PySem.W.codeIn K cd12 "_law_groups" = true) (k12 : PySem.W.keepIn K (.ref f12) = true)
    (a13 : PySem.W.nsIn K mainGlobals "_law_toll" = some (some (.ref f13))) (l13 : K.lookup f13 = some ⟨oc13, od13, .func (PySem.W.fnOf "_law_toll" "_law_toll" (defArgs s_law_toll) (defBody s_law_toll) (defScope s_law_toll) .none kV13 dc13 pm13 an13 cd13 ct13), sl13⟩) (c13 : PySem.W.codeIn K cd13 "_law_toll" = true) (k13 : PySem.W.keepIn K (.ref f13) = true)
    (a14 : PySem.W.nsIn K mainGlobals "_law_ones" = some (some (.ref f14))) (l14 : K.lookup f14 = some ⟨oc14, od14, .func (PySem.W.fnOf "_law_ones" "_law_ones" (defArgs s_law_ones) (defBody s_law_ones) (defScope s_law_ones) .none kV14 dc14 pm14 an14 cd14 ct14), sl14⟩) (c14 : PySem.W.codeIn K cd14 "_law_ones" = true) (k14 : PySem.W.keepIn K (.ref f14) = true)
    (a15 : PySem.W.nsIn K mainGlobals "_law_paid" = some (some (.ref f15))) (l15 : K.lookup f15 = some ⟨oc15, od15, .func (PySem.W.fnOf "_law_paid" "_law_paid" (defArgs s_law_paid) (defBody s_law_paid) (defScope s_law_paid) .none kV15 dc15 pm15 an15 cd15 ct15), sl15⟩) (c15 : PySem.W.codeIn K cd15 "_law_paid" = true) (k15 : PySem.W.keepIn K (.ref f15) = true)
    (a16 : PySem.W.nsIn K mainGlobals "_law_is_cut" = some (some (.ref f16))) (l16 : K.lookup f16 = some ⟨oc16, od16, .func (PySem.W.fnOf "_law_is_cut" "_law_is_cut" (defArgs s_law_is_cut) (defBody s_law_is_cut) (defScope s_law_is_cut) .none kV16 dc16 pm16 an16 cd16 ct16), sl16⟩) (c16 : PySem.W.codeIn K cd16 "_law_is_cut" = true) (k16 : PySem.W.keepIn K (.ref f16) = true)
    (a17 : PySem.W.nsIn K mainGlobals "_law_numbers" = some (some (.ref f17))) (l17 : K.lookup f17 = some ⟨oc17, od17, .func (PySem.W.fnOf "_law_numbers" "_law_numbers" (defArgs s_law_numbers) (defBody s_law_numbers) (defScope s_law_numbers) .none kV17 dc17 pm17 an17 cd17 ct17), sl17⟩) (c17 : PySem.W.codeIn K cd17 "_law_numbers" = true) (k17 : PySem.W.keepIn K (.ref f17) = true)
    (a18 : PySem.W.nsIn K mainGlobals "_law_even" = some (some (.ref f18))) (l18 : K.lookup f18 = some ⟨oc18, od18, .func (PySem.W.fnOf "_law_even" "_law_even" (defArgs s_law_even) (defBody s_law_even) (defScope s_law_even) .none kV18 dc18 pm18 an18 cd18 ct18), sl18⟩) (c18 : PySem.W.codeIn K cd18 "_law_even" = true) (k18 : PySem.W.keepIn K (.ref f18) = true)
    (a19 : PySem.W.nsIn K mainGlobals "_law_refused" = some (some (.ref f19))) (l19 : K.lookup f19 = some ⟨oc19, od19, .func (PySem.W.fnOf "_law_refused" "_law_refused" (defArgs s_law_refused) (defBody s_law_refused) (defScope s_law_refused) .none kV19 dc19 pm19 an19 cd19 ct19), sl19⟩) (c19 : PySem.W.codeIn K cd19 "_law_refused" = true) (k19 : PySem.W.keepIn K (.ref f19) = true)
    (a20 : PySem.W.nsIn K mainGlobals "law" = some (some (.ref f20))) (l20 : K.lookup f20 = some ⟨oc20, od20, .func (PySem.W.fnOf "law" "law" (defArgs s_law) (defBody s_law) (defScope s_law) .none kV20 dc20 pm20 an20 cd20 ct20), sl20⟩) (c20 : PySem.W.codeIn K cd20 "law" = true) (k20 : PySem.W.keepIn K (.ref f20) = true)
    (z0 : PySem.W.nsIn K mainGlobals "len" = some none)
    (z1 : PySem.W.nsIn K mainGlobals "range" = some none)
    (z2 : PySem.W.nsIn K mainGlobals "str" = some none)
    (z3 : PySem.W.nsIn K mainGlobals "tuple" = some none)
    (z4 : PySem.W.nsIn K mainGlobals "list" = some none)
    (z5 : PySem.W.nsIn K mainGlobals "isinstance" = some none)
    (z6 : PySem.W.nsIn K mainGlobals "int" = some none)
    (z7 : PySem.W.nsIn K mainGlobals "bool" = some none)
    (z8 : PySem.W.nsIn K mainGlobals "min" = some none)
    (z9 : PySem.W.nsIn K mainGlobals "max" = some none)
    (z10 : PySem.W.nsIn K mainGlobals "sum" = some none)
    (z11 : PySem.W.nsIn K mainGlobals "sorted" = some none)
    (z12 : PySem.W.nsIn K mainGlobals "ValueError" = some none)
    (gc0 : PySem.W.nsIn K mainGlobals "MOST_GROUPS" = some (some (.int 8 tk0)))
    (x_BundleError : PySem.W.nsIn K mainGlobals "BundleError" = some (some (.ref c_BundleError)))
    (x_TooMany : PySem.W.nsIn K mainGlobals "TooMany" = some (some (.ref c_TooMany)))
    (x_Asks : PySem.W.nsIn K mainGlobals "Asks" = some (some (.ref c_Asks)))
    (x_Endless : PySem.W.nsIn K mainGlobals "Endless" = some (some (.ref c_Endless)))
    (x_NoMap : PySem.W.nsIn K mainGlobals "NoMap" = some (some (.ref c_NoMap)))
    (x_NoName : PySem.W.nsIn K mainGlobals "NoName" = some (some (.ref c_NoName)))
    (x_NoPart : PySem.W.nsIn K mainGlobals "NoPart" = some (some (.ref c_NoPart)))
    (x_NoPlace : PySem.W.nsIn K mainGlobals "NoPlace" = some (some (.ref c_NoPlace)))
    (x_NoRow : PySem.W.nsIn K mainGlobals "NoRow" = some (some (.ref c_NoRow)))
    (x_NotGiven : PySem.W.nsIn K mainGlobals "NotGiven" = some (some (.ref c_NotGiven)))
    (x_Twice : PySem.W.nsIn K mainGlobals "Twice" = some (some (.ref c_Twice)))
    (k_BundleError_cl : PySem.W.clsIn K c_BundleError = some cd_c_BundleError)
    (k_BundleError_ty : PySem.W.typeIn K (.ref c_BundleError) = some (.type "type"))
    (k_BundleError_base : PySem.W.mroIn K c_BundleError (.type "BaseException") = some true)
    (k_BundleError_ga : PySem.W.findIn K (.ref c_BundleError) "__getattribute__" = some (some (.builtin "BaseException.__getattribute__")))
    (k_BundleError_gt : PySem.W.findIn K (.ref c_BundleError) "__getattr__" = some none)
    (k_BundleError_ca : PySem.W.findIn K (.ref c_BundleError) "__class__" = some (some (.builtin "object.__class__")))
    (k_BundleError_gd : PySem.W.specialIn K (.builtin "object.__class__") "__get__" = some (some (.builtin "getset_descriptor.__get__")))
    (k_BundleError_tk : PySem.W.takesIn K (.builtin "object.__class__") = some true)
    (k_BundleError_ob : PySem.W.mroIn K c_BundleError (.type "object") = some true)
    (k_TooMany_cl : PySem.W.clsIn K c_TooMany = some cd_c_TooMany)
    (k_TooMany_ty : PySem.W.typeIn K (.ref c_TooMany) = some (.type "type"))
    (k_TooMany_base : PySem.W.mroIn K c_TooMany (.type "BaseException") = some true)
    (k_TooMany_ga : PySem.W.findIn K (.ref c_TooMany) "__getattribute__" = some (some (.builtin "BaseException.__getattribute__")))
    (k_TooMany_gt : PySem.W.findIn K (.ref c_TooMany) "__getattr__" = some none)
    (k_TooMany_ca : PySem.W.findIn K (.ref c_TooMany) "__class__" = some (some (.builtin "object.__class__")))
    (k_TooMany_gd : PySem.W.specialIn K (.builtin "object.__class__") "__get__" = some (some (.builtin "getset_descriptor.__get__")))
    (k_TooMany_tk : PySem.W.takesIn K (.builtin "object.__class__") = some true)
    (k_TooMany_ob : PySem.W.mroIn K c_TooMany (.type "object") = some true)
    (f_i_self : PySem.W.kitOne K (.ref c_TooMany) (.ref c_TooMany) = some true)
    (f_i_val : PySem.W.kitOne K (.ref c_TooMany) (.type "ValueError") = some true)
    (f_i_oth : PySem.W.kitAny K (.ref c_TooMany) [.ref c_Asks, .ref c_Endless, .ref c_NoMap, .ref c_NoName, .ref c_NoPart, .ref c_NoPlace, .ref c_NoRow, .ref c_NotGiven, .ref c_Twice] = some false)
    (f_s_TooMany : PySem.W.mroIn K c_TooMany (.ref c_BundleError) = some true)
    (i_TooMany_ini : PySem.W.findIn K (.ref c_TooMany) "__init__" = some (some (.ref fi_TooMany)))
    (i_TooMany_l : K.lookup fi_TooMany = some ⟨ioc_TooMany, iod_TooMany, .func (PySem.W.fnOf "__init__" "TooMany.__init__" (defArgs s_TooMany___init__) (defBody s_TooMany___init__) (defScope s_TooMany___init__) .none ikV_TooMany idc_TooMany ipm_TooMany ian_TooMany icd_TooMany ict_TooMany), isl_TooMany⟩)
    (i_TooMany_c : PySem.W.codeIn K icd_TooMany "TooMany.__init__" = true)
    (i_TooMany_k : PySem.W.keepIn K (.ref fi_TooMany) = true)
    (i_TooMany_f : PySem.W.isFn K (.ref fi_TooMany) = true)
    (i_TooMany_kc : PySem.W.keepIn K (.ref c_TooMany) = true)
    (i_TooMany_o : K.lookup c_TooMany = some (excClassObj jnm_TooMany jq_TooMany c_TooMany jN_TooMany jbs_TooMany (.ref c_BundleError :: [.type "ValueError", .type "Exception", .type "BaseException", .type "object"]) jh_TooMany jsn_TooMany jsub_TooMany jab_TooMany jcol_TooMany jdd_TooMany j0_TooMany j1_TooMany j2_TooMany j3_TooMany j5_TooMany "ValueError.__new__"))
    (i_TooMany_e : PySem.W.excIn K c_BundleError [.type "ValueError", .type "Exception", .type "BaseException", .type "object"] "ValueError.__new__" = true)
    (i_TooMany_ov : OverV cd_c_TooMany.mro)
    (i_TooMany_hd : cd_c_TooMany.hasDict = true)
    (i_TooMany_sa : PySem.W.findIn K (.ref c_TooMany) "__setattr__" = some (some (.builtin "object.__setattr__")))
    (i_TooMany_no : PySem.W.findIn K (.ref c_TooMany) "parts" = some none)
    (b_BundleError_ga : PySem.W.specialIn K (.ref c_BundleError) "__getattribute__" = some (some (.builtin "type.__getattribute__")))
    (b_BundleError_rd : PySem.W.readsIn K c_BundleError (.type "type") = true)
    (b_BundleError_fc : PySem.W.findCls K (.ref c_BundleError) (.type "type") "__init__" = some (.val (.builtin "ValueError.__init__"))) :
    ∃ fd : FuncData, (∀ (s : Shared) (v : Value), BindsTo s fd ⟨[v], []⟩ [("_law_script", v)]) ∧ ∀ base : Heap, K.In base → base.Ns mainGlobals mg → FnOk l.prog w K mg base CX0 7 fa fd ["_law_script"] (spLaw K) := by
  have e := hfa.symm.trans (PySem.W.mg_of X G a20)
  cases e
  have T : Txt K mg := ⟨PySem.W.mg_none_of X G z0, PySem.W.mg_none_of X G z1, PySem.W.mg_none_of X G z2, PySem.W.mg_none_of X G z3, PySem.W.mg_none_of X G z4, PySem.W.mg_none_of X G z5, PySem.W.mg_none_of X G z6, PySem.W.mg_none_of X G z7, PySem.W.mg_none_of X G z8, PySem.W.mg_none_of X G z9, PySem.W.mg_none_of X G z10, PySem.W.mg_none_of X G z11, PySem.W.mg_none_of X G z12, ⟨_, PySem.W.mg_of X G gc0, ⟨_, rfl⟩⟩, hasDef_mk X G a0 l0 c0 k0, hasDef_mk X G a1 l1 c1 k1, hasDef_mk X G a2 l2 c2 k2, hasDef_mk X G a3 l3 c3 k3, hasDef_mk X G a4 l4 c4 k4, hasDef_mk X G a5 l5 c5 k5, hasDef_mk X G a6 l6 c6 k6, hasDef_mk X G a7 l7 c7 k7, hasDef_mk X G a8 l8 c8 k8, hasDef_mk X G a9 l9 c9 k9, hasDef_mk X G a10 l10 c10 k10, hasDef_mk X G a11 l11 c11 k11, hasDef_mk X G a12 l12 c12 k12, hasDef_mk X G a13 l13 c13 k13, hasDef_mk X G a14 l14 c14 k14, hasDef_mk X G a15 l15 c15 k15, hasDef_mk X G a16 l16 c16 k16, hasDef_mk X G a17 l17 c17 k17, hasDef_mk X G a18 l18 c18 k18, hasDef_mk X G a19 l19 c19 k19, ⟨⟨c_BundleError, c_TooMany, c_Asks, c_Endless, c_NoMap, c_NoName, c_NoPart, c_NoPlace, c_NoRow, c_NotGiven, c_Twice⟩, ⟨PySem.W.mg_of X G x_BundleError, PySem.W.mg_of X G x_TooMany, PySem.W.mg_of X G x_Asks, PySem.W.mg_of X G x_Endless, PySem.W.mg_of X G x_NoMap, PySem.W.mg_of X G x_NoName, PySem.W.mg_of X G x_NoPart, PySem.W.mg_of X G x_NoPlace, PySem.W.mg_of X G x_NoRow, PySem.W.mg_of X G x_NotGiven, PySem.W.mg_of X G x_Twice, ⟨(by rw [k_BundleError_cl]; rfl), k_BundleError_ty, k_BundleError_base, k_BundleError_ga, k_BundleError_gt, k_BundleError_ca, k_BundleError_gd, k_BundleError_tk, k_BundleError_ob⟩, ⟨(by rw [k_TooMany_cl]; rfl), k_TooMany_ty, k_TooMany_base, k_TooMany_ga, k_TooMany_gt, k_TooMany_ca, k_TooMany_gd, k_TooMany_tk, k_TooMany_ob⟩, f_i_self, f_i_val, f_i_oth, f_s_TooMany, ⟨fi_TooMany, _, fun_mk (st := s_TooMany___init__) i_TooMany_l i_TooMany_c i_TooMany_k, ⟨⟨c_BundleError, jN_TooMany, jnm_TooMany, jq_TooMany, jbs_TooMany, jh_TooMany, jsn_TooMany, jsub_TooMany, jab_TooMany, jcol_TooMany, jdd_TooMany, j0_TooMany, j1_TooMany, j2_TooMany, j3_TooMany, j5_TooMany, i_TooMany_o, i_TooMany_e⟩, i_TooMany_ini, i_TooMany_f⟩, i_TooMany_kc⟩, ⟨⟨cd_c_TooMany, k_TooMany_cl, i_TooMany_ov, i_TooMany_hd⟩, i_TooMany_sa, i_TooMany_no⟩, ⟨b_BundleError_ga, b_BundleError_rd, b_BundleError_fc⟩⟩⟩⟩
  exact ⟨_, fun s v => .of_eq rfl, fun base _ _ => law_fn (fun_mk (st := s_law) l20 c20 k20) T⟩
theorem walk {l : PySem.W.OpenLaw} {q : Program} {loose : List Str} {XP : (Str → Option Value) → Heap → Prop} {YP : World → Heap → Prop} {d : DefRec} {K : Params → PySem.W.Frag} (hn : l.most = some 63) (hdf : d.params.defaults = [])
    (hY : ∀ (w : World) (h : Heap), YP w h → (K w.params).In h)
    (F : ∀ (w : World) (mg : Str → Option Value) (fa : Addr) (h : Heap), (K w.params).In h → h.Ns mainGlobals mg → mg d.name = some (.ref fa) →
      ∃ fd : FuncData, (∀ (s : Shared) (u : Value), BindsTo s fd ⟨[u], []⟩ [("_law_script", u)]) ∧ ∀ base : Heap, (K w.params).In base → base.Ns mainGlobals mg → FnOk l.prog w (K w.params) mg base CX0 7 fa fd ["_law_script"] (spLaw (K w.params))) :
    PySem.W.WalkO q loose XP YP l.row.toRowW d [] (fun f vs => PySem.call f vs) :=
  L2.walk_of (n := 63) (k := 7) (x := "_law_script") (CX := fun _ => CX0) (sp := fun w => spLaw (K w.params)) hn (by decide) hdf ⟨rfl, by decide, by decide⟩ hY F (fun _ _ a ns hl _ hS => ⟨a, ns, rfl, hS, hl, fun _ => rfl⟩) fun _ _ _ _ _ z => z
end K57
open PySem PySem.W PyProof.Rows
set_option maxRecDepth 100000 in
set_option maxHeartbeats 0 in
theorem PySem.Challenge.cw_bundlehouse_k57_many_groups_holds : PySem.Challenge.rw_bundlehouse_k57_many_groups.Holds := by
  w_on; o_law; k_head; (case hw => w_witness2)
  k_fill
  refine K57.walk (l := PySem.Challenge.rw_bundlehouse_k57_many_groups) rfl rfl (fun w h Y => PySem.W.kIn_of Y) ?F
  case F =>
    intro w mg fa h KX G hmg
    refine' K57.all_mk KX G hmg ?a0 ?l0 ?c0 ?k0 ?a1 ?l1 ?c1 ?k1 ?a2 ?l2 ?c2 ?k2 ?a3 ?l3 ?c3 ?k3 ?a4 ?l4 ?c4 ?k4 ?a5 ?l5 ?c5 ?k5 ?a6 ?l6 ?c6 ?k6 ?a7 ?l7 ?c7 ?k7 ?a8 ?l8 ?c8 ?k8 ?a9 ?l9 ?c9 ?k9 ?a10 ?l10 ?c10 ?k10 ?a11 ?l11 ?c11 ?k11 ?a12 ?l12 ?c12 ?k12 ?a13 ?l13 ?c13 ?k13 ?a14 ?l14 ?c14 ?k14 ?a15 ?l15 ?c15 ?k15 ?a16 ?l16 ?c16 ?k16 ?a17 ?l17 ?c17 ?k17 ?a18 ?l18 ?c18 ?k18 ?a19 ?l19 ?c19 ?k19 ?a20 ?l20 ?c20 ?k20 ?z0 ?z1 ?z2 ?z3 ?z4 ?z5 ?z6 ?z7 ?z8 ?z9 ?z10 ?z11 ?z12 ?gc0 ?x_BundleError ?x_TooMany ?x_Asks ?x_Endless ?x_NoMap ?x_NoName ?x_NoPart ?x_NoPlace ?x_NoRow ?x_NotGiven ?x_Twice ?k_BundleError_cl ?k_BundleError_ty ?k_BundleError_base ?k_BundleError_ga ?k_BundleError_gt ?k_BundleError_ca ?k_BundleError_gd ?k_BundleError_tk ?k_BundleError_ob ?k_TooMany_cl ?k_TooMany_ty ?k_TooMany_base ?k_TooMany_ga ?k_TooMany_gt ?k_TooMany_ca ?k_TooMany_gd ?k_TooMany_tk ?k_TooMany_ob ?f_i_self ?f_i_val ?f_i_oth ?f_s_TooMany ?i_TooMany_ini ?i_TooMany_l ?i_TooMany_c ?i_TooMany_k ?i_TooMany_f ?i_TooMany_kc ?i_TooMany_o ?i_TooMany_e ?i_TooMany_ov ?i_TooMany_hd ?i_TooMany_sa ?i_TooMany_no ?b_BundleError_ga ?b_BundleError_rd ?b_BundleError_fc
    (case a0 => k_is); (case l0 => k_is); (case c0 => k_is); (case k0 => k_is)
    (case a1 => k_is); (case l1 => k_is); (case c1 => k_is); (case k1 => k_is)
    (case a2 => k_is); (case l2 => k_is); (case c2 => k_is); (case k2 => k_is)
    (case a3 => k_is); (case l3 => k_is); (case c3 => k_is); (case k3 => k_is)
    (case a4 => k_is); (case l4 => k_is); (case c4 => k_is); (case k4 => k_is)
    (case a5 => k_is); (case l5 => k_is); (case c5 => k_is); (case k5 => k_is)
    (case a6 => k_is); (case l6 => k_is); (case c6 => k_is); (case k6 => k_is)
    (case a7 => k_is); (case l7 => k_is); (case c7 => k_is); (case k7 => k_is)
    (case a8 => k_is); (case l8 => k_is); (case c8 => k_is); (case k8 => k_is)
    (case a9 => k_is); (case l9 => k_is); (case c9 => k_is); (case k9 => k_is)
    (case a10 => k_is); (case l10 => k_is); (case c10 => k_is); (case k10 => k_is)
    (case a11 => k_is); (case l11 => k_is); (case c11 => k_is); (case k11 => k_is)
    (case a12 => k_is); (case l12 => k_is); (case c12 => k_is); (case k12 => k_is)
    (case a13 => k_is); (case l13 => k_is); (case c13 => k_is); (case k13 => k_is)
    (case a14 => k_is); (case l14 => k_is); (case c14 => k_is); (case k14 => k_is)
    (case a15 => k_is); (case l15 => k_is); (case c15 => k_is); (case k15 => k_is)
    (case a16 => k_is); (case l16 => k_is); (case c16 => k_is); (case k16 => k_is)
    (case a17 => k_is); (case l17 => k_is); (case c17 => k_is); (case k17 => k_is)
    (case a18 => k_is); (case l18 => k_is); (case c18 => k_is); (case k18 => k_is)
    (case a19 => k_is); (case l19 => k_is); (case c19 => k_is); (case k19 => k_is)
    (case a20 => k_is); (case l20 => k_is); (case c20 => k_is); (case k20 => k_is)
    (case z0 => k_is); (case z1 => k_is); (case z2 => k_is); (case z3 => k_is); (case z4 => k_is); (case z5 => k_is); (case z6 => k_is); (case z7 => k_is); (case z8 => k_is); (case z9 => k_is); (case z10 => k_is); (case z11 => k_is); (case z12 => k_is)
    (case gc0 => k_is)
    (case x_BundleError => k_is)
    (case x_TooMany => k_is)
    (case x_Asks => k_is)
    (case x_Endless => k_is)
    (case x_NoMap => k_is)
    (case x_NoName => k_is)
    (case x_NoPart => k_is)
    (case x_NoPlace => k_is)
    (case x_NoRow => k_is)
    (case x_NotGiven => k_is)
    (case x_Twice => k_is)
    (case k_BundleError_cl => k_is)
    (case k_BundleError_ty => k_is)
    (case k_BundleError_base => k_is)
    (case k_BundleError_ga => k_is)
    (case k_BundleError_gt => k_is)
    (case k_BundleError_ca => k_is)
    (case k_BundleError_gd => k_is)
    (case k_BundleError_tk => k_is)
    (case k_BundleError_ob => k_is)
    (case k_TooMany_cl => k_is)
    (case k_TooMany_ty => k_is)
    (case k_TooMany_base => k_is)
    (case k_TooMany_ga => k_is)
    (case k_TooMany_gt => k_is)
    (case k_TooMany_ca => k_is)
    (case k_TooMany_gd => k_is)
    (case k_TooMany_tk => k_is)
    (case k_TooMany_ob => k_is)
    (case f_i_self => kit_is)
    (case f_i_val => kit_is)
    (case f_i_oth => kit_is)
    (case f_s_TooMany => k_is)
    (case i_TooMany_ini => k_is)
    (case i_TooMany_l => k_is)
    (case i_TooMany_c => k_is)
    (case i_TooMany_k => k_is)
    (case i_TooMany_f => k_is)
    (case i_TooMany_kc => k_is)
    (case i_TooMany_o => k_is)
    (case i_TooMany_e => k_exc)
    (case i_TooMany_ov => exact .own (.own .base))
    (case i_TooMany_hd => rfl)
    (case i_TooMany_sa => k_is)
    (case i_TooMany_no => k_is)
    (case b_BundleError_ga => k_is)
    (case b_BundleError_rd => k_is)
    (case b_BundleError_fc => k_is)